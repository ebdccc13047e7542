package tests

import (
	"strings"
	"testing"

	"loop.example/g03220/impl"
)

type rulesCase struct {
	literals string
	clauses  []string
}

var goodRules = []rulesCase{
	{"", []string{"(m) 1"}}, {"", []string{"(_ x) x"}}, {"", []string{"(m{1,4} x{2}) (x{2} x)"}}, {"", []string{"(x x) x"}}, {"", []string{"(x (x)) x", "(x) x"}}, {"", []string{"(_ a b ...) (b ... a)", "(_) 0"}}, {"", []string{"(_ x ...) ((x x) ...)"}},
	{"m", []string{"(m m x) (m x)"}}, {"else", []string{"(_ else x) x", "(_ x ...) (y x ...)"}}, {"a b c d e f g h", []string{"(_ a b i) (i a)"}}, {"a a", []string{"(a a) a"}}, {"a{1}", []string{"(_ a a{1}) (a a{1})"}},
	{"", []string{"(_ (x y ...) ...) ((y ... x) ...)"}}, {"", []string{"(_ (((x ...) ...) ...)) (((x ...) ...) ...)"}}, {"", []string{"(_ ((x ...) ...) ...) (((x ...) ...) ...)"}}, {"", []string{"(_ _ ...) 1"}}, {"", []string{"(_ ((((_ ...) ...) ...) ...)) ()"}},
	{"", []string{"(m x) x", "(n y) y", "(_{3} z) (z)"}}, {"", []string{"(_ x) x", "(_ x) x"}}, {"", []string{"(m x ... y) (y x ...)"}}, {"", []string{"(_ 1 #t \"a\" ()) (1 #t \"...\" ())"}}, {"", []string{"(m x) m", "(m m) m"}},
}

// badRules are not valid, most of them for one reason.
var badRules = []rulesCase{
	{"", nil}, {"a", nil}, {"...", []string{"(m) 1"}}, {"_", []string{"(m) 1"}}, {"a ...{2}", []string{"(m) 1"}}, {"a _{1}", []string{"(m) 1"}}, {"(a)", []string{"(m) 1"}}, {"1", []string{"(m) 1"}}, {"\"a\"", []string{"(m) 1"}}, {"()", []string{"(m) 1"}}, {"a b c d e f g h i", []string{"(m) 1"}},
	{"", []string{"m 1"}}, {"", []string{"_ 1"}}, {"", []string{"1 1"}}, {"", []string{"#t 1"}}, {"", []string{"\"m\" 1"}}, {"", []string{"() 1"}}, {"", []string{"((m)) 1"}}, {"", []string{"((m) x) 1"}}, {"", []string{"(1 x) x"}}, {"", []string{"(() x) x"}}, {"", []string{"(\"m\" x) x"}}, {"", []string{"(#f) 1"}},
	{"", []string{"(...) 1"}}, {"", []string{"(... x) x"}}, {"", []string{"(...{1} x) 1"}}, {"", []string{"(m ...) 1"}}, {"", []string{"(m ...{2} x) x"}}, {"", []string{"(_ ...) 1"}}, {"", []string{"(_ ... x ...) 1"}},
	{"", []string{"(m x x) 1"}}, {"", []string{"(m x (x)) 1"}}, {"", []string{"(m x ... y ...) 1"}}, {"", []string{"(m x ... ...) 1"}}, {"", []string{"(m (...)) 1"}}, {"", []string{"(m ((((x ...) ...) ...) ...)) 1"}}, {"", []string{"(m (((x ...) ...) ...) ...) 1"}},
	{"", []string{"(m x) ..."}}, {"", []string{"(m x) (x ...)"}}, {"", []string{"(m x ...) x"}}, {"", []string{"(m x ...) (m ...)"}}, {"", []string{"(x x ...) (x)"}}, {"", []string{"(m) (m ...)"}}, {"", []string{"(m x ...) (... x)"}}, {"", []string{"(m x ...) (x ... ...)"}}, {"", []string{"(m (x ...) ...) (x ...)"}},
	{"x", []string{"(m x ...) (x ...)"}}, {"", []string{"(m x{1} ...) (x ...)"}}, {"", []string{"(_ x) x", "(_ x ...) x"}}, {"", []string{"(_ x ...) x", "(_ x) x"}}, {"", []string{"(_ x ...) 1", "(_ y) (x ...)"}}, {"", []string{"(_ x) x", "(_ y) y", "z z"}},
}

func TestIsRules(t *testing.T) {
	for _, c := range goodRules {
		if !impl.IsRules(mustReadRules(t, c.literals, c.clauses...)) {
			t.Errorf("IsRules of (%s) and %v = false", c.literals, c.clauses)
		}
	}
	for _, c := range badRules {
		r := mustReadRules(t, c.literals, c.clauses...)
		if impl.IsRules(r) || impl.FormatRules(r) != "" {
			t.Errorf("IsRules of (%s) and %v = true", c.literals, c.clauses)
		}
	}
}

func TestIsRulesOfListsOfDifferentLengths(t *testing.T) {
	p, x := mustReadForm(t, "(m)"), identifier("x")
	for patterns := range 15 {
		for templates := range 15 {
			var r impl.Rules
			for range patterns {
				r.Patterns = append(r.Patterns, p)
			}
			for range templates {
				r.Templates = append(r.Templates, x)
			}
			want := patterns == templates && patterns >= 1 && patterns <= 12
			if impl.IsRules(r) != want || impl.FormatRules(r) != "" != want {
				t.Errorf("IsRules with %d patterns and %d templates is not %v", patterns, templates, want)
			}
		}
	}
	large := impl.Rules{Patterns: make([]impl.Syntax, 100000), Templates: make([]impl.Syntax, 100000)}
	if impl.IsRules(large) || impl.IsRules(impl.Rules{}) || impl.IsRules(impl.Rules{Literals: []impl.Syntax{}, Patterns: []impl.Syntax{}, Templates: []impl.Syntax{}}) {
		t.Error("rules with too many clauses, or none, are valid")
	}
}

func TestIsRulesOfInvalidForms(t *testing.T) {
	for _, s := range badForms() {
		for _, r := range []impl.Rules{
			{Literals: []impl.Syntax{s}, Patterns: []impl.Syntax{mustReadForm(t, "(m)")}, Templates: leaves(1)},
			{Patterns: []impl.Syntax{s}, Templates: leaves(1)}, {Patterns: []impl.Syntax{form(identifier("m"), s)}, Templates: leaves(1)}, {Patterns: []impl.Syntax{form(s)}, Templates: leaves(1)},
			{Patterns: []impl.Syntax{mustReadForm(t, "(m)")}, Templates: []impl.Syntax{s}}, {Patterns: []impl.Syntax{mustReadForm(t, "(m)"), mustReadForm(t, "(m)")}, Templates: []impl.Syntax{form(), form(s)}},
		} {
			if impl.IsRules(r) || impl.FormatRules(r) != "" {
				t.Errorf("IsRules of %s = true", showRules(r))
			}
		}
	}
	list := impl.Syntax{Kind: impl.DatumList, Text: "a", Items: []impl.Syntax{identifier("m")}}
	if impl.IsRules(impl.Rules{Patterns: []impl.Syntax{list}, Templates: leaves(1)}) {
		t.Error("a pattern with a Text is accepted")
	}
	// The head is no part of the list that is matched, but of the pattern.
	if impl.IsRules(impl.Rules{Patterns: []impl.Syntax{form(identifier("M"), identifier("x"))}, Templates: leaves(1)}) || impl.IsRules(impl.Rules{Patterns: []impl.Syntax{form(identifier("m", 2, 1))}, Templates: leaves(1)}) {
		t.Error("a pattern whose first item is not valid is accepted")
	}
}

// filledRules returns rules with this number of nodes in patterns and
// templates.
func filledRules(clauses, nodes int, inPattern bool) impl.Rules {
	var r impl.Rules
	for range clauses {
		r.Patterns = append(r.Patterns, form(identifier("m")))
		r.Templates = append(r.Templates, form())
	}
	more := leaves(nodes - 3*clauses)
	if inPattern {
		r.Patterns[clauses-1].Items = append(r.Patterns[clauses-1].Items, more...)
	} else {
		r.Templates[0].Items = append(r.Templates[0].Items, more...)
	}
	return r
}

func TestIsRulesUpToTheLimitOfNodes(t *testing.T) {
	for _, clauses := range []int{1, 2, 12} {
		for _, inPattern := range []bool{true, false} {
			for nodes := 1990; nodes <= 2010; nodes++ {
				r := filledRules(clauses, nodes, inPattern)
				if impl.IsRules(r) != (nodes <= 2000) {
					t.Errorf("IsRules with %d clauses and %d nodes is %v", clauses, nodes, nodes > 2000)
				}
			}
		}
	}
	// Literals do not count.
	r := filledRules(1, 2000, true)
	r.Literals = manyNames(8)
	if !impl.IsRules(r) || impl.IsRules(filledRules(1, 100000, true)) || impl.IsRules(filledRules(1, 100000, false)) {
		t.Error("IsRules of large rules has another result")
	}
	both := filledRules(2, 2000, true)
	both.Templates[1] = form(leaves(1)...)
	if impl.IsRules(both) {
		t.Error("IsRules of patterns and templates with 2001 nodes together = true")
	}
}

func TestIsRulesUpToTheLimitOfDepth(t *testing.T) {
	deep := nestedForms(39)
	for extra, want := range []bool{true, false} {
		r := impl.Rules{Patterns: []impl.Syntax{form(identifier("m"), deep)}, Templates: leaves(1)}
		if impl.IsRules(r) != want {
			t.Errorf("IsRules of a pattern of depth %d is not %v", 40+extra, want)
		}
		r = impl.Rules{Patterns: []impl.Syntax{form(identifier("m"))}, Templates: []impl.Syntax{form(deep)}}
		if impl.IsRules(r) != want {
			t.Errorf("IsRules of a template of depth %d is not %v", 40+extra, want)
		}
		deep = form(deep)
	}
}

// anyRules returns rules of which some are valid.
func (g *generator) anyRules() impl.Rules {
	r := impl.Rules{Literals: g.literals()}
	for range 1 + g.below(3) {
		pattern := form(append([]impl.Syntax{identifier([]string{"_", "m", "a"}[g.below(3)], g.scopeSet(12)...)}, g.pattern(4).Items...)...)
		if g.below(30) == 0 {
			pattern = g.pattern(2)
		}
		r.Patterns = append(r.Patterns, pattern)
		variables, _ := describedVariables(r.Literals, form(pattern.Items[min(1, len(pattern.Items)):]...))
		r.Templates = append(r.Templates, g.templateOf(variables))
	}
	if g.below(30) == 0 {
		r.Templates = append(r.Templates, g.syntax(1))
	}
	return r
}

// templateOf returns a template with these variables; most fit.
func (g *generator) templateOf(variables []impl.Capture) impl.Syntax {
	items := []impl.Syntax{g.syntax(0)}
	for range 1 + g.below(4) {
		if len(variables) == 0 {
			break
		}
		c := variables[g.below(len(variables))]
		s := c.Name
		for range min(c.Depth, 4) {
			if s.Kind == impl.DatumSymbol && g.below(3) == 0 {
				s = form(g.syntax(0), s, variables[0].Name)
			}
			s = form(s, identifier("..."))
			if g.below(3) == 0 {
				s.Items = append(s.Items, g.syntax(0))
			}
		}
		items = append(items, s)
	}
	return form(items...)
}

func TestIsRulesOfAnyRules(t *testing.T) {
	g := generator(65)
	count := 0
	for range 4000 {
		r := g.anyRules()
		got := impl.IsRules(r)
		if got != areGoodRules(r) {
			t.Fatalf("IsRules of %s = %v, text %s", showRules(r), got, impl.FormatSyntax(form(form(r.Literals...), form(r.Patterns...), form(r.Templates...))))
		}
		if got {
			count++
		}
	}
	if count < 400 {
		t.Errorf("only %d rules are valid", count)
	}
}

func TestEqualRules(t *testing.T) {
	var all []impl.Rules
	for _, c := range append(goodRules, badRules...) {
		all = append(all, mustReadRules(t, c.literals, c.clauses...))
	}
	x := []impl.Syntax{identifier("x")}
	all = append(all, impl.Rules{Literals: x}, impl.Rules{Patterns: x}, impl.Rules{Templates: x}, impl.Rules{Literals: x, Patterns: x}, impl.Rules{Templates: x, Patterns: x}, impl.Rules{Literals: x, Templates: x},
		impl.Rules{Literals: []impl.Syntax{identifier("x", 1)}}, impl.Rules{Patterns: []impl.Syntax{identifier("x", 2)}}, impl.Rules{Templates: []impl.Syntax{{Kind: 7, Number: -3}}}, impl.Rules{Templates: []impl.Syntax{{Kind: 7, Number: 3}}},
		impl.Rules{Literals: []impl.Syntax{x[0], x[0]}}, impl.Rules{Patterns: []impl.Syntax{x[0], x[0]}}, impl.Rules{Templates: []impl.Syntax{x[0], x[0]}}, impl.Rules{Templates: []impl.Syntax{nestedForms(deepNesting)}}, impl.Rules{Templates: []impl.Syntax{nestedForms(deepNesting - 1)}})
	for i, a := range all {
		for j, b := range all {
			if got := impl.EqualRules(a, b); got != sameRules(a, b) || i == j && !got {
				t.Errorf("EqualRules(%s, %s) = %v", showRules(a), showRules(b), got)
			}
		}
	}
	empty := impl.Rules{Literals: []impl.Syntax{}, Patterns: []impl.Syntax{}, Templates: []impl.Syntax{}}
	if !impl.EqualRules(empty, impl.Rules{}) || !impl.EqualRules(impl.Rules{}, empty) {
		t.Error("nil and empty lists are not equal")
	}
}

func TestFormatRules(t *testing.T) {
	cases := []struct {
		literals string
		clauses  []string
		want     string
	}{
		{"", []string{"(m) 1"}, "(syntax-rules () ((m) 1))"}, {"else{1} a", []string{"(_ x{2,3} else{1}) (x{2,3} x)", "(_{4}) \"a\""}, "(syntax-rules (else{1} a) ((_ x{2,3} else{1}) (x{2,3} x)) ((_{4}) \"a\"))"},
		{"", []string{"(_ a b ...) (b ...{1} a)", "(_) #f"}, "(syntax-rules () ((_ a b ...) (b ...{1} a)) ((_) #f))"},
	}
	for _, c := range cases {
		if got := impl.FormatRules(mustReadRules(t, c.literals, c.clauses...)); got != c.want {
			t.Errorf("FormatRules = %s, want %s", got, c.want)
		}
	}
	// The text of large rules is longer than that of a valid syntax object.
	large := filledRules(1, 2000, false)
	if got := impl.FormatRules(large); !strings.HasPrefix(got, "(syntax-rules () ((m) (0 1 ") || !strings.HasSuffix(got, " 1995 1996)))") {
		t.Errorf("FormatRules of 2000 nodes = %.100s", got)
	}
	deep := impl.Rules{Patterns: []impl.Syntax{form(identifier("m"), nestedForms(39))}, Templates: leaves(1)}
	if got := impl.FormatRules(deep); got != "(syntax-rules () ((m "+strings.Repeat("(", 39)+strings.Repeat(")", 39)+") 0))" {
		t.Errorf("FormatRules of rules of depth 40 = %s", got)
	}
	if impl.FormatRules(impl.Rules{}) != "" || impl.FormatRules(impl.Rules{Patterns: leaves(1), Templates: leaves(1)}) != "" {
		t.Error("FormatRules of rules that are not valid is not empty")
	}
}

// rulesForm is the syntax object of rules, with the head as its first item.
func rulesForm(head impl.Syntax, r impl.Rules) impl.Syntax {
	items := []impl.Syntax{head, form(r.Literals...)}
	for i, p := range r.Patterns {
		items = append(items, form(p, r.Templates[i]))
	}
	return form(items...)
}

func TestParseRules(t *testing.T) {
	for _, c := range goodRules {
		want := mustReadRules(t, c.literals, c.clauses...)
		got, ok := impl.ParseRules(impl.CoreBindings(), rulesForm(identifier("syntax-rules", 1, 7), want))
		if !ok || !sameRules(got, want) {
			t.Errorf("ParseRules of (%s) and %v = %s, %v", c.literals, c.clauses, showRules(got), ok)
		}
		if again, ok := impl.ParseRules(impl.CoreBindings(), mustReadForm(t, impl.FormatRules(want))); !ok || !sameRules(again, want) {
			t.Errorf("%s is read back as %s, %v", impl.FormatRules(want), showRules(again), ok)
		}
	}
	for _, c := range badRules {
		checkNoRules(t, impl.CoreBindings(), rulesForm(identifier("syntax-rules"), mustReadRules(t, c.literals, c.clauses...)))
	}
}

func checkNoRules(t *testing.T, list []impl.Binding, s impl.Syntax) {
	t.Helper()
	if got, ok := impl.ParseRules(list, s); ok || !sameRules(got, impl.Rules{}) {
		t.Errorf("ParseRules of %.300s = %s, %v", showForm(s), showRules(got), ok)
	}
}

func TestParseRulesOfOtherShapes(t *testing.T) {
	sources := []string{
		"syntax-rules", "()", "5", "\"syntax-rules\"", "(syntax-rules)", "(syntax-rules ())", "(syntax-rules ((m) 1))", "(syntax-rules a ((m) 1))", "(syntax-rules 1 ((m) 1))", "(syntax-rules \"\" ((m) 1))", "(() ((m) 1))", "((syntax-rules) () ((m) 1))", "(1 () ((m) 1))", "(\"syntax-rules\" () ((m) 1))",
		"(syntax-rules () m)", "(syntax-rules () 1)", "(syntax-rules () ())", "(syntax-rules () ((m)))", "(syntax-rules () ((m) 1 2))", "(syntax-rules () ((m) 1) ())", "(syntax-rules () ((m) 1) x)", "(syntax-rules () x ((m) 1))", "(syntax-rules () ((m) 1) ((m)))", "(syntax-rules () ((m) 1) ((m) 1 ...))", "(syntax-rules () (m 1))", "(syntax-rules () (((m)) 1))",
		"(syntax-rule () ((m) 1))", "(syntax-rule* () ((m) 1))", "(if () ((m) 1))", "(define-syntax () ((m) 1))", "(local () ((m) 1))", "(car () ((m) 1))", "(display () ((m) 1))", "(m () ((m) 1))", "(... () ((m) 1))", "(_ () ((m) 1))",
	}
	for _, source := range sources {
		checkNoRules(t, impl.CoreBindings(), mustReadForm(t, source))
	}
	good := mustReadForm(t, "(syntax-rules () ((m) 1))")
	for _, s := range badForms() {
		checkNoRules(t, impl.CoreBindings(), s)
		checkNoRules(t, impl.CoreBindings(), form(append(good.Items[:3:3], form(form(identifier("m")), s))...))
		checkNoRules(t, impl.CoreBindings(), form(append(good.Items[:3:3], form(form(identifier("m"), s), identifier("x")))...))
		checkNoRules(t, impl.CoreBindings(), form(append(good.Items[:3:3], s)...))
		checkNoRules(t, impl.CoreBindings(), form(good.Items[0], form(s), good.Items[2]))
		checkNoRules(t, impl.CoreBindings(), form(s, good.Items[1], good.Items[2]))
	}
	for _, s := range noIdentifiers() {
		checkNoRules(t, impl.CoreBindings(), form(s, good.Items[1], good.Items[2]))
	}
}

func TestParseRulesResolvesTheHead(t *testing.T) {
	s := mustReadForm(t, "(h{1,4} () ((_ x) x))")
	want := mustReadRules(t, "", "(_ x) x")
	cases := []struct {
		list []impl.Binding
		ok   bool
	}{
		{nil, false}, {impl.CoreBindings(), false}, {[]impl.Binding{binding(impl.BindingForm, 10, "h")}, true}, {[]impl.Binding{binding(impl.BindingForm, 10, "h", 1, 4)}, true}, {[]impl.Binding{binding(impl.BindingForm, 10, "h", 1, 3)}, false}, {[]impl.Binding{binding(impl.BindingForm, 10, "syntax-rules")}, false},
		{[]impl.Binding{binding(impl.BindingForm, 9, "h")}, false}, {[]impl.Binding{binding(impl.BindingForm, 11, "h")}, false}, {[]impl.Binding{binding(impl.BindingForm, 0, "h")}, false}, {[]impl.Binding{binding(impl.BindingPrimitive, 10, "h")}, false}, {[]impl.Binding{binding(impl.BindingVariable, 10, "h")}, false}, {[]impl.Binding{binding(impl.BindingMacro, 10, "h")}, false},
		{[]impl.Binding{binding(impl.BindingForm, 10, "h"), variable(10, "h", 1)}, false}, {[]impl.Binding{variable(10, "h"), binding(impl.BindingForm, 10, "h", 1)}, true}, {[]impl.Binding{variable(10, "h"), binding(impl.BindingForm, 10, "h", 1), variable(10, "h", 4)}, false},
		{[]impl.Binding{binding(impl.BindingForm, 10, "h", 4), binding(impl.BindingForm, 10, "h", 1)}, false}, {[]impl.Binding{binding(impl.BindingForm, 10, "h", 4), binding(impl.BindingForm, 10, "h", 1), binding(impl.BindingForm, 10, "h", 1, 4)}, true},
	}
	for _, c := range cases {
		got, ok := impl.ParseRules(c.list, s)
		if ok != c.ok || ok && !sameRules(got, want) || !ok && !sameRules(got, impl.Rules{}) {
			t.Errorf("ParseRules with %s = %s, %v", showBindings(c.list...), showRules(got), ok)
		}
	}
	core := append(impl.CoreBindings(), variable(1, "syntax-rules", 1), variable(2, "syntax-rules", 4))
	for source, want := range map[string]bool{"syntax-rules": true, "syntax-rules{2}": true, "syntax-rules{1}": false, "syntax-rules{1,4}": false} {
		if _, ok := impl.ParseRules(core, mustReadForm(t, "("+source+" () ((m) 1))")); ok != want {
			t.Errorf("ParseRules with the head %s is %v", source, ok)
		}
	}
	for _, list := range badLists() {
		checkNoRules(t, append(list[:len(list):len(list)], binding(impl.BindingForm, 10, "h", 1, 4)), s)
	}
}

// The largest rules that a valid syntax object can have.
func TestParseLargeRules(t *testing.T) {
	r := filledRules(1, 2000-4, true)
	got, ok := impl.ParseRules(impl.CoreBindings(), rulesForm(identifier("syntax-rules"), r))
	if !ok || !sameRules(got, r) {
		t.Errorf("ParseRules of 2000 nodes: %v", ok)
	}
	checkNoRules(t, impl.CoreBindings(), rulesForm(identifier("syntax-rules"), filledRules(1, 2000-3, true)))
	many := filledRules(12, 40, false)
	if got, ok := impl.ParseRules(impl.CoreBindings(), rulesForm(identifier("syntax-rules"), many)); !ok || !sameRules(got, many) {
		t.Errorf("ParseRules of 12 clauses: %v", ok)
	}
	checkNoRules(t, impl.CoreBindings(), rulesForm(identifier("syntax-rules"), filledRules(13, 40, false)))
	checkNoRules(t, impl.CoreBindings(), rulesForm(identifier("syntax-rules"), filledRules(300, 900, false)))
	for n := range 12 {
		literals := impl.Rules{Literals: manyNames(n), Patterns: []impl.Syntax{form(identifier("m"))}, Templates: leaves(1)}
		if _, got := impl.ParseRules(impl.CoreBindings(), rulesForm(identifier("syntax-rules"), literals)); got != (n <= 8) {
			t.Errorf("ParseRules with %d literals is %v", n, got)
		}
	}
}

func TestParseRulesOfAnyRules(t *testing.T) {
	g := generator(67)
	for range 3000 {
		r := g.anyRules()
		for len(r.Templates) > len(r.Patterns) {
			r.Templates = r.Templates[1:]
		}
		good := areGoodRules(r)
		got, ok := impl.ParseRules(impl.CoreBindings(), rulesForm(identifier("syntax-rules", g.scopeSet(12)...), r))
		if ok != good || ok && !sameRules(got, r) || !ok && !sameRules(got, impl.Rules{}) {
			t.Fatalf("ParseRules of %s = %s, %v", showRules(r), showRules(got), ok)
		}
		if want := impl.FormatSyntax(rulesForm(identifier("syntax-rules"), r)); good && impl.FormatRules(r) != want || !good && impl.FormatRules(r) != "" {
			t.Fatalf("FormatRules = %s, want %s", impl.FormatRules(r), want)
		}
	}
}

func TestStrangeRules(t *testing.T) {
	g := generator(69)
	strange := func(most int) []impl.Syntax {
		var result []impl.Syntax
		for range g.below(most + 1) {
			result = append(result, g.strangeSyntax(2))
		}
		return result
	}
	for range 5000 {
		r := impl.Rules{Literals: strange(2), Patterns: strange(3), Templates: strange(3)}
		if g.below(2) == 0 {
			r.Literals = nil
			r.Patterns = []impl.Syntax{form(append([]impl.Syntax{identifier("m")}, strange(2)...)...)}
			r.Templates = []impl.Syntax{g.strangeSyntax(1)}
		}
		if got := impl.IsRules(r); got != areGoodRules(r) || (impl.FormatRules(r) != "") != got {
			t.Fatalf("IsRules of %s = %v", showRules(r), got)
		}
		s := g.strangeSyntax(3)
		if _, ok := impl.ParseRules(impl.CoreBindings(), s); ok {
			t.Fatalf("ParseRules of %s succeeds", showForm(s))
		}
	}
}
