package tests

import (
	"strings"
	"testing"

	"loop.example/g03220/impl"
)

// baseNames are the names of the macros of BaseSource, in order.
var baseNames = strings.Fields("let let* letrec and or when cond while swap!")

// The expander of the given tests of chapter 7: the core bindings, and the nine
// macros that are bound to their names without scopes.
func TestLoadBase(t *testing.T) {
	names := baseNames
	want := usualExpander(t)
	want.Bindings = impl.CoreBindings()
	want.Macros = want.Macros[:len(names)]
	want.Variable = 0
	for i, name := range names {
		want.Bindings = append(want.Bindings, binding(impl.BindingMacro, i, name))
	}
	got := impl.LoadBase()
	if !sameExpander(got, want) || !impl.IsExpander(got) {
		t.Errorf("LoadBase() = the %s", showExpander(got))
	}
	seen := newExpanderMemory()
	if seen.sharesExpander(got) || seen.sharesExpander(impl.LoadBase()) {
		t.Error("the results of LoadBase share memory")
	}
}

// The nine lines of chapter 8 stand in the usual macros, behind an empty line and
// before the macro keep.
func TestBaseSource(t *testing.T) {
	lines := strings.SplitAfter(usualMacros, "\n")
	want := strings.Join(lines[1:10], "")
	got := impl.BaseSource()
	if got != want || strings.Count(got, "\n") != 9 || !strings.HasSuffix(got, "(set! b tmp)))))\n") || len(got) != 943 {
		t.Errorf("BaseSource() has %d bytes and is\n%s", len(got), got)
	}
}

// The macros of LoadBase are those of BaseSource, and they do what they should.
func TestBaseSourceIsLoaded(t *testing.T) {
	definitions := mustParse(t, impl.BaseSource())
	x := impl.NewExpander()
	for i, d := range definitions {
		rules, ok := impl.ParseRules(x.Bindings, impl.SyntaxOf(d.Items[2]))
		if d.Items[0].Text != "define-syntax" || !ok {
			t.Fatalf("the definition %d of BaseSource is %s", i, impl.FormatDatum(d))
		}
		x, _ = impl.BindMacro(x, impl.SyntaxOf(d.Items[1]), rules)
	}
	if !sameExpander(x, impl.LoadBase()) {
		t.Errorf("LoadBase() = the %s", showExpander(impl.LoadBase()))
	}
	for _, c := range []expandCase{
		{"(let ((a 1) (b 2)) a b)", "((lambda (v1 v2) (begin v1 v2)) (quote 1) (quote 2))"}, {"(let* ((a 1) (b a)) b)", "((lambda (v1) ((lambda (v2) ((lambda () v2))) v1)) (quote 1))"}, {"(letrec ((f f)) f)", "((lambda () (local (v1) (set! v1 v1) ((lambda () v1)))))"},
		{"(and)", "(quote #t)"}, {"(and 1)", "(quote 1)"}, {"(and 1 2)", "(if (quote 1) (quote 2) (quote #f))"}, {"(or)", "(quote #f)"}, {"(or 1)", "(quote 1)"}, {"(or 1 2)", "((lambda (v1) (if v1 v1 (quote 2))) (quote 1))"}, {"(when 1 2 3)", "(if (quote 1) (begin (quote 2) (quote 3)) (quote #f))"},
		{"(cond)", "(quote #f)"}, {"(cond (else 1 2))", "(begin (quote 1) (quote 2))"}, {"(cond (1 2) (3 4))", "(if (quote 1) (quote 2) (if (quote 3) (quote 4) (quote #f)))"}, {"(while 1 2)", "((lambda () (local (v1) (set! v1 (lambda () (if (quote 1) (begin (quote 2) (v1)) (quote #f)))) (v1))))"}, {"(lambda (a b) (swap! a b))", "(lambda (v1 v2) ((lambda (v3) (begin (set! v1 v2) (set! v2 v3))) v1))"},
	} {
		term, _, code := checkExpression(t, impl.LoadBase(), mustReadForm(t, c.source))
		if got := outcome(term, code); got != c.want {
			t.Errorf("%s expands to %s, not %s", c.source, got, c.want)
		}
	}
}
