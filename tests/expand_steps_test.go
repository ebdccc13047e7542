package tests

import (
	"slices"
	"strings"
	"testing"

	"loop.example/g03220/impl"
)

// stepMacros have scopes as far as 9.
const stepMacros = `
(define-syntax m (syntax-rules (l) ((_ l x) (left x)) ((_ x) (x y)) ((_ x ...) (m x ... y{4}))))
(define-syntax name (syntax-rules () ((_ a b ...) ((quote a) k{2} (b a) ...))))
(define-syntax m{1,4} (syntax-rules () ((_ x) (inner x{5} x))))
(define-syntax none (syntax-rules () ((none) 1)))
(define-syntax loop (syntax-rules () ((loop x ...) (loop x ... x ...))))
(define-syntax again (syntax-rules () ((_) (again))))
`

func TestExpandStep(t *testing.T) {
	for _, c := range []struct {
		scope      int
		form, want string
		after      int
	}{
		// The form gets the use scope, the template the introduction scope.
		{9, "(m 5)", "(5 y{14})", 14}, {10, "(m a)", "(a{12} y{14})", 14}, {11, "(m (a{1} \"s\" b))", "((a{1,12} \"s\" b{12}) y{14})", 14}, {12, "(m a)", "(a{15} y{17})", 17}, {13, "(m a)", "(a{15} y{17})", 17},
		{9, "(m l 3)", "(left{14} 3)", 14}, {9, "(m l{3} q)", "(left{14} q{12})", 14}, {9, "(m)", "(m{14} y{4,14})", 14}, {9, "(m a b)", "(m{14} a{12} b{12} y{4,14})", 14}, {9, "(m{1,3} a)", "(a{12} y{14})", 14},
		{9, "(name p q r)", "((quote{14} p{12}) k{2,14} (q{12} p{12}) (r{12} p{12}))", 14}, {9, "(name 1)", "((quote{14} 1) k{2,14})", 14},
		{9, "(m{1,4} z)", "(inner{14} x{5,14} z{12})", 14}, {9, "(m{1,4,9} z{9})", "(inner{14} x{5,14} z{9,12})", 14}, {9, "(m{1} z)", "(z{12} y{14})", 14},
		{9, "(none)", "1", 14}, {9, "(again)", "(again{14})", 14},
		{99991, "(m a)", "(a{99993} y{99995})", 99995}, {99995, "(m a)", "(a{99996} y{99998})", 99998}, {99994, "(m a)", "(a{99996} y{99998})", 99998},
	} {
		x := expanderOf(t, c.scope, stepMacros)
		x.Bindings = append(x.Bindings, variable(1, "q", 3))
		want := x
		want.Scope, want.Steps = c.after, 199
		got, after, code := checkStep(t, x, mustReadForm(t, c.form))
		if impl.FormatSyntax(got) != c.want || code != impl.ExpandOk || !sameExpander(after, want) || !impl.IsExpander(after) {
			t.Errorf("ExpandStep(%s) behind %d = %s, %d with the %s", c.form, c.scope, impl.FormatSyntax(got), code, showExpander(after))
		}
	}
}

func TestExpandStepFails(t *testing.T) {
	for _, c := range []struct {
		scope, steps int
		form         string
		code         int
	}{
		{9, 1, "(m a)", impl.ExpandOk}, {9, 0, "(m a)", impl.ExpandFuel}, {9, 0, "(none 1)", impl.ExpandFuel}, {99999, 0, "(none 1)", impl.ExpandFuel},
		{9, 1, "(none 1)", impl.ExpandNoRule}, {9, 1, "(none none)", impl.ExpandNoRule}, {9, 200, "(m{1,4})", impl.ExpandNoRule}, {9, 200, "(m{1,4} a b)", impl.ExpandNoRule},
		{99996, 5, "(m a)", impl.ExpandLarge}, {99997, 5, "(m a)", impl.ExpandLarge}, {99998, 5, "(m a)", impl.ExpandLarge}, {99999, 5, "(m a)", impl.ExpandLarge}, {99996, 5, "(none 1)", impl.ExpandLarge}, {99999, 5, "(none 1)", impl.ExpandLarge}, {99995, 5, "(none 1)", impl.ExpandNoRule},
		{9, 5, "m", impl.ExpandSyntax}, {9, 5, "()", impl.ExpandSyntax}, {9, 5, "5", impl.ExpandSyntax}, {9, 5, "#t", impl.ExpandSyntax}, {9, 5, "\"m\"", impl.ExpandSyntax}, {9, 5, "(5 m)", impl.ExpandSyntax}, {9, 5, "((m a) b)", impl.ExpandSyntax}, {9, 5, "(\"m\" a)", impl.ExpandSyntax}, {9, 5, "(() a)", impl.ExpandSyntax},
		{9, 5, "(if a b c)", impl.ExpandSyntax}, {9, 5, "(car a)", impl.ExpandSyntax}, {9, 5, "(glob a)", impl.ExpandSyntax}, {9, 5, "(unbound a)", impl.ExpandSyntax}, {9, 5, "(both{1,2} a)", impl.ExpandSyntax}, {9, 0, "(if a b c)", impl.ExpandSyntax}, {99999, 0, "(car a)", impl.ExpandSyntax}, {9, 5, "(m a{10})", impl.ExpandSyntax}, {9, 0, "(m{1,4,12} a)", impl.ExpandSyntax},
	} {
		x := expanderOf(t, c.scope, stepMacros)
		x.Bindings = append(x.Bindings, binding(impl.BindingMacro, 0, "both", 1), binding(impl.BindingMacro, 0, "both", 2))
		x.Steps = c.steps
		got, after, code := checkStep(t, x, mustReadForm(t, c.form))
		if code != c.code || code != impl.ExpandOk && (!isZero(got) || !sameExpander(after, x)) {
			t.Errorf("ExpandStep(%s) behind %d with %d steps = %s, %d", c.form, c.scope, c.steps, impl.FormatSyntax(got), code)
		}
		if results := impl.TraceForm(x, mustReadForm(t, c.form)); len(results) > 0 != (code == impl.ExpandOk) {
			t.Errorf("TraceForm(%s) has %d results", c.form, len(results))
		}
	}
}

// A result that is no valid syntax object is no result.
func TestExpandStepOfLargeResults(t *testing.T) {
	x := expanderOf(t, 9, stepMacros+"(define-syntax around (syntax-rules () ((_ x) ((x)))))")
	loop := form(append([]impl.Syntax{identifier("loop")}, leaves(1000)...)...)
	if got, _, code := checkStep(t, x, loop); code != impl.ExpandNoRule {
		t.Errorf("a result of %d nodes has the code %d", impl.CountSyntax(got), code)
	}
	loop.Items = loop.Items[:len(loop.Items)-1]
	if got, _, code := checkStep(t, x, loop); code != impl.ExpandOk || impl.CountSyntax(got) != 2000 {
		t.Errorf("a result of %d nodes has the code %d", impl.CountSyntax(got), code)
	}
	deep := form(identifier("around"), nestedForms(38))
	if _, _, code := checkStep(t, x, deep); code != impl.ExpandOk {
		t.Errorf("a result of depth 40 has the code %d", code)
	}
	if _, _, code := checkStep(t, x, form(identifier("around"), nestedForms(39))); code != impl.ExpandNoRule {
		t.Errorf("a result of depth 41 has the code %d", code)
	}
}

func traceText(results []impl.Syntax) string {
	var texts []string
	for _, s := range results {
		texts = append(texts, impl.FormatSyntax(s))
	}
	return strings.Join(texts, " -> ")
}

func TestTraceForm(t *testing.T) {
	x := expanderOf(t, 0, usualMacros+"(define-syntax again (syntax-rules () ((_) (again))))")
	for _, c := range []struct{ form, want string }{
		{"(and 1 2)", "(if{5} 1 (and{5} 2) #f)"}, {"(and)", "#t"}, {"(and (and))", "(and{3})->#t"}, {"(and a)", "a{3}"}, {"5", ""}, {"(if 1 2 3)", ""}, {"and", ""}, {"(let)", ""}, {"(let x)", ""}, {"(unknown (and))", ""},
		{"(or a b)", "(let{5} ((t{5} a{3})) (if{5} t{5} t{5} (or{5} b{3})))->((lambda{8} (t{5,6}) (if{5,6} t{5,6} t{5,6} (or{5,6} b{3,6}))) a{3,6})"},
		{"(let* () 1 2)", "(let{5} () 1 2)->((lambda{8} () 1 2))"},
		// The second step ends with an error.
		{"(let* (x) x)", "(let{5} (x{3}) (let*{5} () x{3}))"}, {"(and (let x))", "(let{3} x{3})"},
	} {
		results := checkTrace(t, x, mustReadForm(t, c.form))
		if got := strings.ReplaceAll(traceText(results), " -> ", "->"); got != c.want {
			t.Errorf("TraceForm(%s) = %s, not %s", c.form, got, c.want)
		}
	}
	again := mustReadForm(t, "(again)")
	for _, steps := range []int{0, 1, 2, 5, 199, 200} {
		x.Steps = steps
		if results := checkTrace(t, x, again); len(results) != steps {
			t.Errorf("a trace with %d steps has %d results", steps, len(results))
		}
	}
	for _, left := range []int{0, 1, 2, 3, 4, 5, 6, 9, 12} {
		x.Scope = impl.MaxScope - left
		want := 0
		for scope := x.Scope; scope+1+(5-(scope+1)%3)%3 <= 99999; want++ {
			_, next, code := describedStep(impl.Expander{Bindings: x.Bindings, Macros: x.Macros, Scope: scope, Variable: 1, Steps: 9}, again)
			if code != impl.ExpandOk {
				break
			}
			scope = next.Scope
		}
		if results := checkTrace(t, x, again); len(results) != want {
			t.Errorf("a trace behind the scope %d has %d results, not %d", x.Scope, len(results), want)
		}
	}
}

func TestStepsOfInvalid(t *testing.T) {
	usual := usualExpander(t)
	good := mustReadForm(t, "(and 1 2)")
	for _, x := range badExpanders(t) {
		got, after, code := impl.ExpandStep(x, good)
		if code != impl.ExpandSyntax || !isZero(got) || !sameExpander(after, x) || len(impl.TraceForm(x, good)) != 0 {
			t.Errorf("ExpandStep with the %s = %s, %d with the %s", showExpander(x), showForm(got), code, showExpander(after))
		}
	}
	for _, s := range strangeForms() {
		got, after, code := impl.ExpandStep(usual, s)
		if code != impl.ExpandSyntax || !isZero(got) || !sameExpander(after, usual) || len(impl.TraceForm(usual, s)) != 0 {
			t.Errorf("ExpandStep of %s = %s, %d", showForm(s), showForm(got), code)
		}
	}
}

// strangeForms are no valid syntax objects, or have scopes that an expander
// without scopes does not know; all begin with a macro, if with anything.
func strangeForms() []impl.Syntax {
	and := identifier("and")
	result := []impl.Syntax{
		form(identifier("and", 1)), form(and, identifier("x", 1)), form(and, form(identifier("x", 99999))), form(append([]impl.Syntax{and}, leaves(1999)...)...), form(and, nestedForms(40)), form(and, nestedForms(deepNesting)),
		{Kind: impl.DatumSymbol, Text: "glob", Items: []impl.Syntax{and}}, {Kind: impl.DatumNumber, Items: []impl.Syntax{and}}, {Kind: 9, Items: []impl.Syntax{and}}, {Number: 1, Items: []impl.Syntax{and}}, {Text: "x", Items: []impl.Syntax{and}}, {Scopes: []int{1}, Items: []impl.Syntax{and}},
		{Kind: impl.DatumNumber, Scopes: []int{1}}, {Kind: impl.DatumNumber, Number: impl.MaxNumber + 1}, {Kind: impl.DatumBoolean, Number: 2}, {Kind: impl.DatumString, Text: "\n"}, {Kind: -1}, {Kind: 5}, {Kind: leastInt}, {Number: 7},
	}
	// More nodes than can be visited.
	branching := form(and)
	for range 60 {
		branching = form(and, branching, branching)
	}
	result = append(result, branching)
	for _, id := range slices.Concat(noIdentifiers()[10:], []impl.Syntax{{Kind: impl.DatumNumber, Text: "and"}}) {
		result = append(result, form(and, id), form(id), id)
	}
	return result
}
