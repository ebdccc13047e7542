package tests

import (
	"fmt"
	"testing"

	"loop.example/g03220/impl"
)

func TestCodeText(t *testing.T) {
	codes := []int{impl.ExpandOk, impl.ExpandSyntax, impl.ExpandUnbound, impl.ExpandAmbiguous, impl.ExpandDuplicate, impl.ExpandContext, impl.ExpandNoRule, impl.ExpandFuel, impl.ExpandLarge}
	for i, code := range codes {
		if code != i || impl.CodeText(code) != codeTexts[i] {
			t.Errorf("CodeText(%d) = %q, not %q", code, impl.CodeText(code), codeTexts[i])
		}
	}
	for _, code := range []int{-1, -2, 9, 10, 20, 21, 22, 23, 24, 256, 1 << 32, leastInt, leastInt + 1, greatestInt} {
		if got := impl.CodeText(code); got != "" {
			t.Errorf("CodeText(%d) = %q", code, got)
		}
	}
}

func TestNewExpander(t *testing.T) {
	x := impl.NewExpander()
	if !sameExpander(x, impl.Expander{Bindings: impl.CoreBindings(), Steps: impl.MaxSteps}) || len(x.Bindings) != 26 || x.Steps != 200 || !impl.IsExpander(x) {
		t.Errorf("NewExpander() = %s", showExpander(x))
	}
}

// manyMacros returns this number of rules.
func manyMacros(t *testing.T, n int) []impl.Rules {
	t.Helper()
	result := make([]impl.Rules, n)
	for i := range result {
		result[i] = mustReadRules(t, "", fmt.Sprintf("(_ x) (quote %d)", i))
	}
	return result
}

// goodExpanders are valid, most of them as far as a limit goes.
func goodExpanders(t *testing.T) []impl.Expander {
	t.Helper()
	usual := usualExpander(t)
	macro := mustReadRules(t, "l{7}", "(_{6} x{5}) (x{5} m{4})")
	rules := []impl.Rules{macro, mustReadRules(t, "", "(_) 1")}
	return []impl.Expander{
		{}, {Bindings: []impl.Binding{}, Macros: []impl.Rules{}}, impl.NewExpander(), usual, {Scope: 99999}, {Variable: 99999}, {Steps: 200}, {Scope: 1, Variable: 1, Steps: 1}, {Scope: 99998, Variable: 99998, Steps: 199},
		{Macros: manyMacros(t, 200)}, {Bindings: manyBindings(1000), Variable: 999}, {Bindings: manySets(1000, "x"), Scope: 50000, Variable: 7},
		{Macros: rules, Scope: 7}, {Macros: []impl.Rules{macro}, Scope: 99999}, {Macros: []impl.Rules{mustReadRules(t, "", "(_ x{99999}) x{99999}")}, Scope: 99999},
		{Bindings: []impl.Binding{variable(5, "x", 7), variable(0, "x"), variable(5, "y")}, Scope: 7, Variable: 5},
		{Bindings: []impl.Binding{variable(0, "x")}}, {Bindings: []impl.Binding{variable(99999, "x", 99999)}, Scope: 99999, Variable: 99999},
		{Bindings: []impl.Binding{binding(impl.BindingMacro, 1, "m", 1, 7), binding(impl.BindingMacro, 0, "m"), binding(impl.BindingMacro, 1, "x")}, Macros: rules, Scope: 7},
		{Bindings: []impl.Binding{binding(impl.BindingForm, 11, "x", 7), binding(impl.BindingPrimitive, 13, "x", 6, 7)}, Scope: 7},
	}
}

// badExpanders are not valid, each for one reason.
func badExpanders(t *testing.T) []impl.Expander {
	t.Helper()
	var bad []impl.Expander
	add := func(change func(x *impl.Expander)) {
		for _, x := range []impl.Expander{{Scope: 10, Variable: 5, Steps: 3, Macros: manyMacros(t, 2), Bindings: []impl.Binding{variable(5, "v", 10)}}, usualExpander(t)} {
			change(&x)
			bad = append(bad, x)
		}
	}
	for _, n := range []int{-1, -2, leastInt, 100000, 100001, 1 << 32, greatestInt} {
		add(func(x *impl.Expander) { x.Scope = n })
		add(func(x *impl.Expander) { x.Variable = n })
	}
	for _, n := range []int{-1, -2, leastInt, 201, 202, 1 << 32, greatestInt} {
		add(func(x *impl.Expander) { x.Steps = n })
	}
	add(func(x *impl.Expander) { x.Scope = -1; x.Bindings = nil; x.Macros = nil })
	add(func(x *impl.Expander) { x.Macros = append(x.Macros, manyMacros(t, 201-len(x.Macros))...) })
	add(func(x *impl.Expander) { x.Macros = append(x.Macros, manyMacros(t, 300)...) })
	for _, list := range badLists() {
		add(func(x *impl.Expander) { x.Scope, x.Variable, x.Bindings = 99999, 99999, list })
	}
	for _, b := range []impl.Binding{
		variable(1, "x", 8), variable(1, "x", 1, 7, 8), variable(6, "x", 99999), binding(impl.BindingForm, 0, "x", 8), binding(impl.BindingPrimitive, 0, "x", 8), binding(impl.BindingMacro, 0, "x", 8),
		variable(6, "x"), variable(6, "x", 7), variable(99999, "x"), binding(impl.BindingMacro, 2, "x"), binding(impl.BindingMacro, 3, "x"), binding(impl.BindingMacro, 99999, "x"), binding(impl.BindingMacro, 5, "x", 1),
	} {
		for _, list := range [][]impl.Binding{{b}, {variable(1, "y"), b}, {b, variable(1, "y")}} {
			bad = append(bad, impl.Expander{Bindings: list, Macros: manyMacros(t, 2), Scope: 7, Variable: 5})
		}
	}
	for _, r := range []impl.Rules{
		{}, mustReadRules(t, "l{8}", "(_ x) x"), mustReadRules(t, "", "(_ x{8}) x"), mustReadRules(t, "", "(_ x) y{8}"), mustReadRules(t, "", "(_{8} x) x"), mustReadRules(t, "", "(_ x) (a (b (c y{1,8})))"), mustReadRules(t, "", "(_ x) x", "(_ x (y z{99999})) x"),
		mustReadRules(t, "l l{1,7,8}", "(_ x) x"), mustReadRules(t, "..."), mustReadRules(t, "", "(_ x x) x"), mustReadRules(t, "", "(_ x) ..."), {Patterns: []impl.Syntax{nestedForms(deepNesting)}, Templates: []impl.Syntax{nestedForms(deepNesting)}},
	} {
		for _, rules := range [][]impl.Rules{{r}, append(manyMacros(t, 1), r), append([]impl.Rules{r}, manyMacros(t, 1)...)} {
			bad = append(bad, impl.Expander{Macros: rules, Scope: 7, Variable: 5})
		}
	}
	for _, c := range badRules {
		add(func(x *impl.Expander) {
			x.Scope = 99999
			x.Macros = append(x.Macros, mustReadRules(t, c.literals, c.clauses...))
		})
	}
	return bad
}

func TestIsExpander(t *testing.T) {
	for _, x := range goodExpanders(t) {
		if !impl.IsExpander(x) || !isGoodExpander(x) {
			t.Errorf("IsExpander of the %s = false", showExpander(x))
		}
	}
	for _, x := range badExpanders(t) {
		if impl.IsExpander(x) {
			t.Errorf("IsExpander of the %s = true", showExpander(x))
		}
	}
}

// Each field at its limits, and one beyond.
func TestIsExpanderAtLimits(t *testing.T) {
	for n := -2; n <= 203; n++ {
		if got := impl.IsExpander(impl.Expander{Steps: n}); got != (n >= 0 && n <= 200) {
			t.Errorf("with %d steps: %v", n, got)
		}
	}
	for _, n := range []int{-1, 0, 1, 99998, 99999, 100000} {
		want := n >= 0 && n <= 99999
		if got := impl.IsExpander(impl.Expander{Scope: n}); got != want {
			t.Errorf("with the scope %d: %v", n, got)
		}
		if got := impl.IsExpander(impl.Expander{Variable: n}); got != want {
			t.Errorf("with the variable %d: %v", n, got)
		}
	}
	for scope := range 12 {
		for _, x := range []impl.Expander{
			{Bindings: []impl.Binding{variable(0, "x", 2, 9)}}, {Bindings: []impl.Binding{binding(impl.BindingForm, 3, "x", 9)}}, {Bindings: []impl.Binding{binding(impl.BindingPrimitive, 3, "x", 1, 9)}},
			{Macros: []impl.Rules{mustReadRules(t, "x{9}", "(_) 1")}}, {Macros: []impl.Rules{mustReadRules(t, "", "(_ a (b{2,9})) 1")}}, {Macros: []impl.Rules{mustReadRules(t, "", "(_) ((a{9}))")}}, {Macros: []impl.Rules{mustReadRules(t, "", "(_{9}) 1")}},
		} {
			x.Scope = scope
			if got := impl.IsExpander(x); got != (scope >= 9) {
				t.Errorf("IsExpander of the %s = %v", showExpander(x), got)
			}
		}
	}
	for n := range 6 {
		x := impl.Expander{Bindings: []impl.Binding{variable(n, "x")}, Variable: 3}
		y := impl.Expander{Bindings: []impl.Binding{binding(impl.BindingMacro, n, "x")}, Macros: manyMacros(t, 3)}
		if impl.IsExpander(x) != (n <= 3) || impl.IsExpander(y) != (n <= 2) {
			t.Errorf("with the number %d: %v, %v", n, impl.IsExpander(x), impl.IsExpander(y))
		}
	}
}

// strangeExpander returns an expander of any fields, often not a valid one.
func (g *generator) strangeExpander(t *testing.T) impl.Expander {
	t.Helper()
	x := impl.Expander{Bindings: g.bindings(6), Scope: 20 + g.below(20), Variable: g.below(6), Steps: g.below(4)}
	for len(x.Macros) < 3 {
		if r := g.anyRules(); areGoodRules(r) || g.below(30) == 0 {
			x.Macros = append(x.Macros, r)
		}
	}
	switch g.below(8) {
	case 0:
		x.Bindings = append(x.Bindings, g.strangeBinding())
	case 1:
		x.Scope = []int{-1, 0, 3, 8, 99999, 100000, leastInt}[g.below(7)]
	case 2:
		x.Variable = []int{-1, 0, 1, 99999, 100000, greatestInt}[g.below(6)]
	case 3:
		x.Steps = []int{-1, 0, 200, 201, leastInt}[g.below(5)]
	case 4:
		x.Macros = append(x.Macros, impl.Rules{Patterns: []impl.Syntax{g.strangeSyntax(2)}, Templates: []impl.Syntax{g.strangeSyntax(2)}})
	}
	return x
}

func TestIsExpanderOfAny(t *testing.T) {
	g := generator(151)
	good, all := 0, 1500
	for range all {
		x := g.strangeExpander(t)
		want := isGoodExpander(x)
		if want {
			good++
		}
		if impl.IsExpander(x) != want {
			t.Errorf("IsExpander of the %s = %v", showExpander(x), !want)
		}
	}
	if good < all/10 || good > all*9/10 {
		t.Errorf("%d of %d expanders are valid", good, all)
	}
}

func TestEqualExpanders(t *testing.T) {
	all := append(goodExpanders(t), impl.Expander{Scope: -1}, impl.Expander{Variable: -1}, impl.Expander{Steps: -1}, impl.Expander{Steps: greatestInt}, impl.Expander{Bindings: []impl.Binding{{}}}, impl.Expander{Bindings: []impl.Binding{{Kind: 9}}},
		impl.Expander{Bindings: []impl.Binding{}}, impl.Expander{Macros: []impl.Rules{}}, impl.Expander{Macros: []impl.Rules{{}}}, impl.Expander{Macros: []impl.Rules{{}, {}}}, impl.Expander{Macros: []impl.Rules{{Literals: []impl.Syntax{{}}}}}, impl.Expander{Macros: []impl.Rules{{Literals: []impl.Syntax{{Kind: 8}}}}},
		impl.Expander{Macros: []impl.Rules{{Templates: []impl.Syntax{nestedForms(deepNesting)}}}}, impl.Expander{Macros: []impl.Rules{{Templates: []impl.Syntax{nestedForms(deepNesting - 1)}}}})
	x := usualExpander(t)
	for _, change := range []func(y *impl.Expander){
		func(y *impl.Expander) { y.Scope++ }, func(y *impl.Expander) { y.Variable++ }, func(y *impl.Expander) { y.Steps-- },
		func(y *impl.Expander) {
			y.Bindings = append(y.Bindings[:len(y.Bindings):len(y.Bindings)], variable(1, "x"))
		},
		func(y *impl.Expander) { y.Bindings = y.Bindings[1:] }, func(y *impl.Expander) { y.Macros = y.Macros[1:] }, func(y *impl.Expander) { y.Macros = nil },
		func(y *impl.Expander) { y.Macros = append(manyMacros(t, 1), y.Macros[1:]...) },
		func(y *impl.Expander) {
			y.Macros = append(y.Macros[:len(y.Macros)-1:len(y.Macros)-1], manyMacros(t, 1)...)
		},
	} {
		y := x
		change(&y)
		all = append(all, y)
	}
	for i, a := range all {
		for j, b := range all {
			if got := impl.EqualExpanders(a, b); got != sameExpander(a, b) || i == j && !got {
				t.Errorf("EqualExpanders of the %s and the %s = %v", showExpander(a), showExpander(b), got)
			}
		}
	}
}
