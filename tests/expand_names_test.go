package tests

import (
	"slices"
	"testing"

	"loop.example/g03220/impl"
)

func TestFreshScope(t *testing.T) {
	x := usualExpander(t)
	for _, c := range []struct{ scope, kind, want int }{
		{0, impl.ScopeBinding, 1}, {0, impl.ScopeIntroduction, 2}, {0, impl.ScopeUse, 3}, {1, impl.ScopeBinding, 4}, {1, impl.ScopeIntroduction, 2}, {1, impl.ScopeUse, 3},
		{2, impl.ScopeBinding, 4}, {2, impl.ScopeIntroduction, 5}, {2, impl.ScopeUse, 3}, {3, impl.ScopeBinding, 4}, {3, impl.ScopeIntroduction, 5}, {3, impl.ScopeUse, 6},
		{99995, impl.ScopeBinding, 99997}, {99995, impl.ScopeIntroduction, 99998}, {99995, impl.ScopeUse, 99996}, {99996, impl.ScopeBinding, 99997}, {99996, impl.ScopeIntroduction, 99998}, {99996, impl.ScopeUse, 99999},
		{99997, impl.ScopeBinding, 0}, {99997, impl.ScopeIntroduction, 99998}, {99997, impl.ScopeUse, 99999}, {99998, impl.ScopeBinding, 0}, {99998, impl.ScopeIntroduction, 0}, {99998, impl.ScopeUse, 99999},
		{99999, impl.ScopeBinding, 0}, {99999, impl.ScopeIntroduction, 0}, {99999, impl.ScopeUse, 0}, {50000, 0, 0}, {0, 0, 0}, {99999, 0, 0}, {99998, 0, 0},
	} {
		x.Scope = c.scope
		want := x
		if c.want != 0 {
			want.Scope = c.want
		}
		after, scope := impl.FreshScope(x, c.kind)
		if scope != c.want || !sameExpander(after, want) || impl.KindOfScope(scope) != c.kind && scope != 0 {
			t.Errorf("FreshScope of kind %d behind %d = %d with the %s", c.kind, c.scope, scope, showExpander(after))
		}
	}
}

// The scopes are taken in ascending order, and those passed over are lost.
func TestFreshScopesInOrder(t *testing.T) {
	g := generator(157)
	for range 200 {
		x := impl.Expander{Scope: g.below(20)}
		if g.below(2) == 0 {
			x.Scope = 99999 - g.below(20)
		}
		for range 10 {
			kind := 1 + g.below(3)
			want := 0
			for n := 99999; n > x.Scope; n-- {
				if n%3 == kind%3 {
					want = n
				}
			}
			after, got := impl.FreshScope(x, kind)
			if got != want || after.Scope != max(want, x.Scope) {
				t.Fatalf("FreshScope of kind %d behind %d = %d, %d", kind, x.Scope, got, after.Scope)
			}
			x = after
		}
	}
}

func TestFreshScopeOfInvalid(t *testing.T) {
	for _, x := range []impl.Expander{impl.NewExpander(), {Scope: 99990, Variable: 5}} {
		for _, kind := range []int{0, -1, -2, -3, 4, 5, 6, 7, leastInt, greatestInt, 1 << 32, 1<<32 + 1} {
			if after, scope := impl.FreshScope(x, kind); scope != 0 || !sameExpander(after, x) {
				t.Errorf("FreshScope of the kind %d = %d with the %s", kind, scope, showExpander(after))
			}
		}
	}
	for _, x := range badExpanders(t) {
		for kind := 1; kind <= 3; kind++ {
			if after, scope := impl.FreshScope(x, kind); scope != 0 || !sameExpander(after, x) {
				t.Errorf("FreshScope of the %s = %d with the %s", showExpander(x), scope, showExpander(after))
			}
		}
	}
}

// checkBinding binds an identifier to a variable and to a macro, which must
// both succeed or fail.
func checkBinding(t *testing.T, x impl.Expander, id impl.Syntax, r impl.Rules, wanted bool) {
	t.Helper()
	checkVariable(t, x, id, wanted)
	checkMacro(t, x, id, r, wanted)
}

func checkVariable(t *testing.T, x impl.Expander, id impl.Syntax, wanted bool) {
	t.Helper()
	want, number := x, 0
	if wanted {
		number = x.Variable + 1
		want.Variable = number
		want.Bindings = slices.Concat(x.Bindings, []impl.Binding{variable(number, id.Text, id.Scopes...)})
	}
	after, got := impl.BindVariable(x, id)
	if got != number || !sameExpander(after, want) || wanted && !impl.IsExpander(after) {
		t.Errorf("BindVariable of %s with the %s = %d with the %s", showForm(id), showExpander(x), got, showExpander(after))
	}
}

func checkMacro(t *testing.T, x impl.Expander, id impl.Syntax, r impl.Rules, wanted bool) {
	t.Helper()
	want := x
	if wanted {
		want.Macros = slices.Concat(x.Macros, []impl.Rules{r})
		want.Bindings = slices.Concat(x.Bindings, []impl.Binding{binding(impl.BindingMacro, len(x.Macros), id.Text, id.Scopes...)})
	}
	after, ok := impl.BindMacro(x, id, r)
	if ok != wanted || !sameExpander(after, want) || wanted && !impl.IsExpander(after) {
		t.Errorf("BindMacro of %s and %s with the %s = %v with the %s", showForm(id), showRules(r), showExpander(x), ok, showExpander(after))
	}
}

func TestBind(t *testing.T) {
	r := mustReadRules(t, "l{9}", "(_ x{2}) (x{2} y{1,9})")
	x := impl.Expander{Bindings: append(impl.CoreBindings(), variable(3, "x", 1, 4), variable(4, "y"), binding(impl.BindingMacro, 0, "m", 2)), Macros: manyMacros(t, 1), Scope: 9, Variable: 4, Steps: 7}
	for _, c := range []struct {
		id string
		ok bool
	}{
		{"z", true}, {"z{1,4}", true}, {"z{9}", true}, {"z{1,9}", true}, {"x{1,4}", false}, {"x{1}", true}, {"x{4}", true}, {"x", true}, {"x{1,4,5}", true}, {"x{1,5}", true}, {"x{9}", true},
		{"y", false}, {"y{1}", true}, {"m{2}", false}, {"m", true}, {"m{2,3}", true}, {"if", false}, {"if{3}", true}, {"car", false}, {"car{9}", true}, {"...", true}, {"_{1}", true}, {"aaaaaaaaaaaaaaaa", true},
		{"z{10}", false}, {"z{1,10}", false}, {"z{99999}", false}, {"x{1,4,10}", false},
	} {
		checkBinding(t, x, mustReadForm(t, c.id), r, c.ok)
	}
	checkBinding(t, impl.Expander{}, identifier("x"), mustReadRules(t, "", "(_) 1"), true)
	checkBinding(t, impl.Expander{}, identifier("x", 1), mustReadRules(t, "", "(_) 1"), false)
	checkBinding(t, impl.Expander{Scope: 99999}, identifier("x", everyScope()...), r, true)
	for _, id := range noIdentifiers() {
		checkBinding(t, impl.Expander{Scope: 99999, Bindings: x.Bindings, Macros: x.Macros, Variable: 4}, id, r, false)
	}
	for _, bad := range badExpanders(t) {
		checkBinding(t, bad, identifier("new"), mustReadRules(t, "", "(_) 1"), false)
	}
}

func TestBindMacroOfRules(t *testing.T) {
	x := impl.Expander{Scope: 9, Steps: 1}
	for _, c := range goodRules {
		r := mustReadRules(t, c.literals, c.clauses...)
		limit := greatestScope(slices.Concat(r.Literals, r.Patterns, r.Templates)...)
		for _, scope := range []int{limit - 1, limit, limit + 1} {
			x.Scope = scope
			checkMacro(t, x, identifier("m"), r, scope >= limit && scope >= 0)
		}
	}
	x.Scope = 99999
	for _, c := range badRules {
		checkMacro(t, x, identifier("m"), mustReadRules(t, c.literals, c.clauses...), false)
	}
	x.Scope = 9
	for _, r := range []impl.Rules{mustReadRules(t, "l{10}", "(_) 1"), mustReadRules(t, "", "(_{10}) 1"), mustReadRules(t, "", "(_ (x{1,10})) 1"), mustReadRules(t, "", "(_) 1", "(_ x) (x y{99999})"), {}, {Patterns: []impl.Syntax{nestedForms(deepNesting)}, Templates: []impl.Syntax{{}}}, {Patterns: []impl.Syntax{form(identifier("_"))}}} {
		checkMacro(t, x, identifier("m"), r, false)
	}
}

func TestBindAtLimits(t *testing.T) {
	r := mustReadRules(t, "", "(_) 1")
	id := identifier("new", 1)
	few := impl.Expander{Bindings: []impl.Binding{variable(1, "x")}, Scope: 5, Variable: 7}
	checkBinding(t, few, id, r, true)
	x := few
	x.Bindings, x.Variable = manyBindings(999), 5000
	checkBinding(t, x, id, r, true)
	x.Bindings = manyBindings(1000)
	checkBinding(t, x, id, r, false)
	checkBinding(t, x, identifier("v7"), r, false)
	x = few
	x.Variable = 99998
	checkBinding(t, x, id, r, true)
	x.Variable = 99999
	checkVariable(t, x, id, false)
	checkVariable(t, x, identifier("x"), false)
	checkMacro(t, x, id, r, true)
	x = few
	x.Macros = manyMacros(t, 199)
	checkBinding(t, x, id, r, true)
	x.Macros = manyMacros(t, 200)
	checkMacro(t, x, id, r, false)
	checkMacro(t, x, identifier("x"), r, false)
	checkVariable(t, x, id, true)
	x.Bindings, x.Variable = manyBindings(1000), 99999
	checkBinding(t, x, id, r, false)
	checkBinding(t, x, identifier("v7"), r, false)
}

// In expansions, the limits of variables and macros come before what is bound
// already, and this before the limit of bindings.
func TestOrderOfLimits(t *testing.T) {
	full := manyBindings(1000)
	copy(full, impl.CoreBindings())
	almost := full[:999]
	macros := manyMacros(t, 200)
	for _, c := range []struct {
		x      impl.Expander
		source string
		code   int
	}{
		{impl.Expander{Bindings: full, Variable: 999}, "(lambda () 1)", impl.ExpandOk},
		{impl.Expander{Bindings: full, Variable: 999}, "(lambda (x) 1)", impl.ExpandLarge},
		{impl.Expander{Bindings: full, Variable: 999}, "(lambda (x x) 1)", impl.ExpandLarge},
		{impl.Expander{Bindings: almost, Variable: 999}, "(lambda (x) 1)", impl.ExpandOk},
		{impl.Expander{Bindings: almost, Variable: 999}, "(lambda (x y) 1)", impl.ExpandLarge},
		{impl.Expander{Bindings: almost, Variable: 999}, "(lambda (x x) 1)", impl.ExpandDuplicate},
		{impl.Expander{Bindings: almost, Variable: 999}, "(let-syntax ((m (syntax-rules () ((_) 1)))) 1)", impl.ExpandOk},
		{impl.Expander{Bindings: almost, Variable: 999}, "(let-syntax ((m (syntax-rules () ((_) 1))) (n (syntax-rules () ((_) 1)))) 1)", impl.ExpandLarge},
		{impl.Expander{Bindings: almost, Variable: 999}, "(let-syntax ((m (syntax-rules () ((_) 1))) (m (syntax-rules () ((_) 1)))) 1)", impl.ExpandDuplicate},
		{impl.Expander{Bindings: almost, Variable: 99998}, "(lambda (x x) 1)", impl.ExpandLarge},
		{impl.Expander{Bindings: almost, Variable: 99997}, "(lambda (x x) 1)", impl.ExpandDuplicate},
		{impl.Expander{Bindings: almost, Variable: 99999}, "(lambda () 1)", impl.ExpandOk},
		{impl.Expander{Bindings: impl.CoreBindings(), Variable: 99998}, "(lambda (x) 1)", impl.ExpandOk},
		{impl.Expander{Bindings: impl.CoreBindings(), Variable: 99998}, "(lambda (x y) 1)", impl.ExpandLarge},
		{impl.Expander{Bindings: impl.CoreBindings(), Variable: 99999}, "(lambda (x) 1)", impl.ExpandLarge},
		{impl.Expander{Bindings: impl.CoreBindings(), Macros: macros}, "(let-syntax () 1)", impl.ExpandOk},
		{impl.Expander{Bindings: impl.CoreBindings(), Macros: macros}, "(let-syntax ((m (syntax-rules () ((_) 1)))) 1)", impl.ExpandLarge},
		{impl.Expander{Bindings: impl.CoreBindings(), Macros: macros[:199]}, "(let-syntax ((m (syntax-rules () ((_) 1)))) 1)", impl.ExpandOk},
		{impl.Expander{Bindings: impl.CoreBindings(), Macros: macros[:199]}, "(let-syntax ((m (syntax-rules () ((_) 1))) (m (syntax-rules () ((_) 1)))) 1)", impl.ExpandLarge},
		{impl.Expander{Bindings: impl.CoreBindings(), Macros: macros[:198]}, "(let-syntax ((m (syntax-rules () ((_) 1))) (m (syntax-rules () ((_) 1)))) 1)", impl.ExpandDuplicate},
	} {
		_, _, code := checkExpression(t, c.x, mustReadForm(t, c.source))
		if code != c.code {
			t.Errorf("%s with %d bindings, %d macros and the variable %d has the code %d, not %d", c.source, len(c.x.Bindings), len(c.x.Macros), c.x.Variable, code, c.code)
		}
	}
	for _, c := range []struct {
		x      impl.Expander
		source string
		code   int
	}{
		{impl.Expander{Bindings: full, Variable: 999}, "(define x 1) 2", impl.ExpandLarge},
		{impl.Expander{Bindings: almost, Variable: 999}, "(define x 1) 2", impl.ExpandOk},
		{impl.Expander{Bindings: almost, Variable: 999}, "(define x 1) (define x 1) 2", impl.ExpandDuplicate},
		{impl.Expander{Bindings: almost, Variable: 999}, "(define x 1) (define (y) 1) 2", impl.ExpandLarge},
		{impl.Expander{Bindings: almost, Variable: 99998}, "(define x 1) (define x 1) 2", impl.ExpandLarge},
		{impl.Expander{Bindings: almost, Variable: 999}, "(define x 1) (define-syntax x (syntax-rules () ((_) 1))) 2", impl.ExpandDuplicate},
		{impl.Expander{Bindings: almost, Macros: macros, Variable: 999}, "(define x 1) (define-syntax x (syntax-rules () ((_) 1))) 2", impl.ExpandLarge},
		{impl.Expander{Bindings: almost, Variable: 999}, "(define-syntax x (syntax-rules () ((_) 1))) (define (x) 1) 2", impl.ExpandDuplicate},
		{impl.Expander{Bindings: almost, Macros: macros, Variable: 99999}, "1", impl.ExpandOk},
	} {
		_, _, code := checkBody(t, c.x, mustReadForms(t, c.source))
		if code != c.code {
			t.Errorf("%s with %d bindings, %d macros and the variable %d has the code %d, not %d", c.source, len(c.x.Bindings), len(c.x.Macros), c.x.Variable, code, c.code)
		}
	}
}
