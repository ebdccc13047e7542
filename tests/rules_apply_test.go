package tests

import (
	"fmt"
	"testing"

	"loop.example/g03220/impl"
)

var applications = []struct {
	literals   string
	clauses    []string
	form, want string
}{
	{"", []string{"(_ x) x"}, "(m 5)", "5"}, {"", []string{"(_ x) (x x{1} y)"}, "(m z{2,3})", "(z{2,3} x{1} y)"}, {"", []string{"(m) 1"}, "(m)", "1"}, {"", []string{"(m) 1"}, "(other)", "1"}, {"", []string{"(m) ()"}, "(m)", "()"},
	{"", []string{"(_ x) x"}, "(5 6)", "6"}, {"", []string{"(_ x) x"}, "(() 6)", "6"}, {"", []string{"(_ x) x"}, "((m n) 6)", "6"}, {"", []string{"(_ x) x"}, "(\"m\" 6)", "6"}, {"", []string{"(_ x) x"}, "(... 6)", "6"}, {"m", []string{"(m x) x"}, "(n 6)", "6"}, {"", []string{"(x y) (x y)"}, "(5 6)", "(x 6)"}, {"", []string{"(x x) x"}, "(5 6)", "6"},
	{"", []string{"(_ a b ...) (b ... a)", "(_) 0"}, "(m 1 2 3)", "(2 3 1)"}, {"", []string{"(_ a b ...) (b ... a)", "(_) 0"}, "(m)", "0"}, {"", []string{"(_) 0", "(_ a b ...) (b ... a)"}, "(m 1)", "(1)"},
	{"", []string{"(_ x) 1", "(_ y) 2"}, "(m 5)", "1"}, {"", []string{"(_ 1) 1", "(_ y) 2", "(_ 3) 3"}, "(m 3)", "2"}, {"", []string{"(_ 1) 1", "(_ 2) 2", "(_ 3) 3"}, "(m 3)", "3"}, {"", []string{"(_ x ...) 1", "(_) 2"}, "(m)", "1"}, {"", []string{"(_ (x)) x", "(_ x) (x)"}, "(m (1 2))", "((1 2))"},
	{"else", []string{"(_ else x) (else x)", "(_ y x) (y x)"}, "(m else{1} 5)", "(else 5)"}, {"else", []string{"(_ else x) 1", "(_ y x) (y x)"}, "(m els 5)", "(els 5)"}, {"", []string{"(_ else x) (else x)"}, "(m a b)", "(a b)"}, {"if", []string{"(_ if) 1", "(_ x) 2"}, "(m if{3})", "1"}, {"if", []string{"(_ if) 1", "(_ x) 2"}, "(m when)", "2"},
	{"", []string{"(_ ((x e) ...) b ...) ((lambda (x ...) b ...) e ...)"}, "(let ((a 1) (b{4} (f a))) a (g b))", "((lambda (a b{4}) a (g b)) 1 (f a))"}, {"", []string{"(_ ((x e) ...) b ...) ((lambda (x ...) b ...) e ...)"}, "(let ())", "((lambda ()))"}, {"", []string{"(_ (k v ...) ...) ((k (v ...)) ...)"}, "(m (a 1 2) (b) (c 3))", "((a (1 2)) (b ()) (c (3)))"},
	{"", []string{"(_ x ...) ((x y) ...)"}, "(m ... _)", "((... y) (_ y))"}, {"", []string{"(_ (x ...) (y ...)) ((x y) ...)"}, "(m (1 2) (3 4))", "((1 3) (2 4))"}, {"", []string{"(_ x ...) (x ... x ...)"}, "(m 1 2)", "(1 2 1 2)"}, {"", []string{"(_ x ... y) (y x ...)"}, "(m 1 2 3)", "(3 1 2)"},
}

func TestApplyRules(t *testing.T) {
	for _, c := range applications {
		got, ok := impl.ApplyRules(impl.CoreBindings(), mustReadRules(t, c.literals, c.clauses...), mustReadForm(t, c.form))
		if !ok || !sameSyntax(got, mustReadForm(t, c.want)) {
			t.Errorf("ApplyRules of (%s), %v and %s = %s, %v, want %s", c.literals, c.clauses, c.form, impl.FormatSyntax(got), ok, c.want)
		}
	}
}

func checkNoApplication(t *testing.T, list []impl.Binding, r impl.Rules, s impl.Syntax) {
	t.Helper()
	if got, ok := impl.ApplyRules(list, r, s); ok || !isZero(got) {
		t.Errorf("ApplyRules with %.200s of %s and %.200s = %.200s, %v", showBindings(list...), showRules(r), showForm(s), showForm(got), ok)
	}
}

func TestApplyRulesRefuses(t *testing.T) {
	cases := []struct {
		literals string
		clauses  []string
		form     string
	}{
		{"", []string{"(_ x) x"}, "(m)"}, {"", []string{"(_ x) x"}, "(m 1 2)"}, {"", []string{"(_ 1) 1", "(_ 2) 2"}, "(m 3)"}, {"", []string{"(_ (x)) x", "(_ (x y)) y"}, "(m ())"}, {"else", []string{"(_ else) 1"}, "(m x)"}, {"", []string{"(_ x ... y) x"}, "(m)"},
		{"", []string{"(_ x ...) 1"}, "()"}, {"", []string{"(_ x ...) 1"}, "m"}, {"", []string{"(_ x ...) 1"}, "5"}, {"", []string{"(_ x ...) 1"}, "\"m\""}, {"", []string{"(_ x ...) 1"}, "#t"}, {"", []string{"(_ x ...) 1"}, "_"},
		// The first pattern that matches decides.
		{"", []string{"(_ (x ...) (y ...)) ((x y) ...)"}, "(m (1 2) (3))"}, {"", []string{"(_ (x ...) (y ...)) ((x y) ...)", "(_ x y) 1"}, "(m (1 2) (3))"}, {"", []string{"(_ 1) 1", "(_ (x ...) (y ...)) (0 (x (y)) ...)", "(_ x ...) 1"}, "(m () (3))"}, {"", []string{"(_ (x y ...) (z ...)) ((x y z) ...)", "(_ x ...) 1"}, "(m (1 2) (3 4))"},
	}
	for _, c := range cases {
		checkNoApplication(t, impl.CoreBindings(), mustReadRules(t, c.literals, c.clauses...), mustReadForm(t, c.form))
	}
	large := form(append([]impl.Syntax{identifier("m")}, leaves(999)...)...)
	checkNoApplication(t, nil, mustReadRules(t, "", "(_ x ...) ((x x) ...)", "(_ x ...) 1"), large)
	if got, ok := impl.ApplyRules(nil, mustReadRules(t, "", "(_ x ...) ((x) ...)", "(_ x ...) 1"), large); !ok || impl.CountSyntax(got) != 1999 {
		t.Errorf("ApplyRules of 1000 items has %d nodes, %v", impl.CountSyntax(got), ok)
	}
	checkNoApplication(t, nil, mustReadRules(t, "", "(_ x) (x)", "(_ x) 1"), form(identifier("m"), nestedForms(40)))
	checkNoApplication(t, nil, mustReadRules(t, "", "(_ x) ((x))", "(_ x) 1"), form(identifier("m"), nestedForms(39)))
	if got, ok := impl.ApplyRules(nil, mustReadRules(t, "", "(_ x) (x)", "(_ x) 1"), form(identifier("m"), nestedForms(39))); !ok || !sameSyntax(got, nestedForms(40)) {
		t.Errorf("ApplyRules of the deepest form = %.200s, %v", showForm(got), ok)
	}
}

func TestApplyRulesOfInvalidArguments(t *testing.T) {
	r, s := mustReadRules(t, "", "(_ x ...) 1"), mustReadForm(t, "(m 1)")
	for _, list := range badLists() {
		checkNoApplication(t, list, r, s)
	}
	for _, bad := range badForms() {
		checkNoApplication(t, nil, r, bad)
		checkNoApplication(t, nil, r, form(bad))
		checkNoApplication(t, nil, r, form(bad, plain(number(1))))
		checkNoApplication(t, nil, r, form(identifier("m"), bad))
		checkNoApplication(t, nil, impl.Rules{Patterns: r.Patterns, Templates: []impl.Syntax{bad}}, s)
		checkNoApplication(t, nil, impl.Rules{Patterns: []impl.Syntax{bad}, Templates: r.Templates}, s)
		checkNoApplication(t, nil, impl.Rules{Literals: []impl.Syntax{bad}, Patterns: r.Patterns, Templates: r.Templates}, s)
	}
	for _, c := range badRules {
		bad := mustReadRules(t, c.literals, c.clauses...)
		for _, source := range []string{"(m)", "(m 1)", "(m x x)", "(m 1 2 3)", "(m (1))"} {
			checkNoApplication(t, impl.CoreBindings(), bad, mustReadForm(t, source))
		}
	}
	// A clause that is not valid also matters behind one that matches.
	checkNoApplication(t, nil, mustReadRules(t, "", "(_ x ...) 1", "(_ x x) 1"), s)
	checkNoApplication(t, nil, mustReadRules(t, "", "(_ x ...) 1", "(_ x ...) x"), s)
	twelve := make([]string, 13)
	for i := range twelve {
		twelve[i] = fmt.Sprintf("(_ %d) %d", i, i*2)
	}
	if got, ok := impl.ApplyRules(nil, mustReadRules(t, "", twelve[:12]...), mustReadForm(t, "(m 11)")); !ok || got.Number != 22 {
		t.Errorf("the last one of 12 clauses: %s, %v", showForm(got), ok)
	}
	checkNoApplication(t, nil, mustReadRules(t, "", twelve...), mustReadForm(t, "(m 1)"))
}

// describedApplication is ApplyRules by the descriptions.
func describedApplication(list []impl.Binding, r impl.Rules, s impl.Syntax) (impl.Syntax, bool) {
	if !areGoodBindings(list) || !areGoodRules(r) || !isSmallGoodForm(s) || len(s.Items) == 0 {
		return impl.Syntax{}, false
	}
	for i, p := range r.Patterns {
		captures, ok := describedCaptures(list, r.Literals, form(p.Items[1:]...), form(s.Items[1:]...))
		if ok {
			return describedResult(r.Templates[i], captures)
		}
	}
	return impl.Syntax{}, false
}

func TestApplyAnyRules(t *testing.T) {
	g := generator(77)
	count := 0
	for range 5000 {
		r := g.anyRules()
		s := g.fitting(r.Patterns[g.below(len(r.Patterns))])
		list := g.bindings(6)
		if g.below(100) == 0 {
			s = g.strangeSyntax(2)
		}
		want, ok := describedApplication(list, r, s)
		got, gotOk := impl.ApplyRules(list, r, s)
		if ok != gotOk || !sameSyntax(got, want) {
			t.Fatalf("ApplyRules with %s of %s and %s = %s, %v, want %s, %v", showBindings(list...), showRules(r), showForm(s), showForm(got), gotOk, showForm(want), ok)
		}
		if ok {
			count++
			checkParts(t, got, append([]impl.Syntax{s}, r.Templates...)...)
		}
	}
	if count < 400 {
		t.Errorf("only %d of the rules were applied", count)
	}
}

// checkParts tells whether each node without items stands in one of these.
func checkParts(t *testing.T, result impl.Syntax, origins ...impl.Syntax) {
	t.Helper()
	var ids []impl.Syntax
	for _, s := range origins {
		eachNode(s, func(_ []int, node impl.Syntax) { ids = append(ids, node) })
	}
	for _, id := range impl.IdentifiersIn(result) {
		if !isAmong(ids, id) {
			t.Fatalf("%s of %s stands in none of %s", showForm(id), showForm(result), showForm(form(origins...)))
		}
	}
	eachNode(result, func(_ []int, node impl.Syntax) {
		if len(node.Items) == 0 && node.Kind != impl.DatumList && !isAmong(ids, node) {
			t.Fatalf("%s of %s stands in none of %s", showForm(node), showForm(result), showForm(form(origins...)))
		}
	})
}

// wholePattern returns a pattern without wildcards and literals, of which each
// repeated item contains a variable.
func (g *generator) wholePattern(repeated, depth int, next *int) impl.Syntax {
	if depth == 0 || g.below(4) == 0 {
		if g.below(6) == 0 {
			return []impl.Syntax{plain(number(g.below(3))), plain(text("a")), plain(boolean(1)), form()}[g.below(4)]
		}
		*next++
		return identifier("v"+fmt.Sprint(*next/2), 1+*next%2)
	}
	var items []impl.Syntax
	dots := g.below(6)
	for i := range g.below(5) {
		if i == dots && repeated < impl.MaxEllipsis {
			*next++
			name := identifier("v"+fmt.Sprint(*next/2), 1+*next%2)
			if g.below(2) == 0 {
				items = append(items, name, identifier("...", g.scopeSet(12)...))
			} else {
				items = append(items, form(g.wholePattern(repeated+1, depth-1, next), name, g.wholePattern(repeated+1, depth-1, next)), identifier("..."))
			}
			continue
		}
		items = append(items, g.wholePattern(repeated, depth-1, next))
	}
	return form(items...)
}

// P4: a pattern, instantiated with what it has matched, is the form.
func TestPatternsGiveBackTheForm(t *testing.T) {
	g := generator(79)
	count := 0
	for range 10000 {
		next := 0
		pattern := g.wholePattern(0, 4, &next)
		s := g.fitting(pattern)
		captures, ok := impl.MatchPattern(nil, nil, pattern, s)
		if !ok {
			continue
		}
		got, ok := impl.Instantiate(pattern, captures)
		if !ok || !sameSyntax(got, s) {
			t.Fatalf("the pattern %s matches %s and gives back %s, %v", impl.FormatSyntax(pattern), impl.FormatSyntax(s), impl.FormatSyntax(got), ok)
		}
		if len(captures) > 1 {
			count++
		}
	}
	if count < 2500 {
		t.Errorf("only %d of the patterns match", count)
	}
	sources := []struct{ pattern, form string }{
		{"x", "(1 2)"}, {"(x ...)", "()"}, {"(x ...)", "(1 (2) x)"}, {"(x ... y z)", "(1 2)"}, {"(x y ... z)", "(1 2 3 4)"}, {"((x ...) ...)", "(() (1 2) ())"}, {"(((x ...) y ...) ... z)", "(((1) 2) (() 3 4) 5)"}, {"((((x y ...) ...) ...) (z) 5)", "((((1 2) (3)) ()) (4) 5)"}, {"(x ... (y 1 (z ...) ...))", "(... _ (... 1 () (...)))"},
	}
	for _, c := range sources {
		captures, ok := impl.MatchPattern(nil, nil, mustReadForm(t, c.pattern), mustReadForm(t, c.form))
		if got, fine := impl.Instantiate(mustReadForm(t, c.pattern), captures); !ok || !fine || !sameSyntax(got, mustReadForm(t, c.form)) {
			t.Errorf("the pattern %s gives back %s for %s", c.pattern, impl.FormatSyntax(got), c.form)
		}
	}
}

// P4: the largest forms are given back too.
func TestPatternsGiveBackLargeForms(t *testing.T) {
	for _, source := range []string{"x", "(x ...)", "(x y ...)", "(x ... y)"} {
		for _, s := range []impl.Syntax{form(leaves(1999)...), form(nestedForms(39), form(leaves(1959)...))} {
			captures, ok := impl.MatchPattern(nil, nil, mustReadForm(t, source), s)
			if got, fine := impl.Instantiate(mustReadForm(t, source), captures); !ok || !fine || !sameSyntax(got, s) {
				t.Errorf("the pattern %s does not give back %.200s", source, showForm(s))
			}
		}
	}
}

// P4: what is instantiated has parts of the template and of the form only.
func TestResultsConsistOfParts(t *testing.T) {
	g := generator(81)
	count := 0
	for range 5000 {
		pattern := form(g.pattern(3), g.pattern(3))
		s := g.fitting(pattern)
		captures, ok := impl.MatchPattern(nil, nil, pattern, s)
		if !ok {
			continue
		}
		template := g.templateOf(captures)
		if !impl.TemplateFits(captures, template) {
			continue
		}
		got, ok := impl.Instantiate(template, captures)
		if !ok {
			continue
		}
		count++
		checkParts(t, got, template, s)
	}
	if count < 400 {
		t.Errorf("only %d templates were instantiated", count)
	}
}
