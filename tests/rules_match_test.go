package tests

import (
	"testing"

	"loop.example/g03220/impl"
)

// matches has literals, a pattern, a form that matches, and what is captured,
// as mustReadCaptures reads it.
var matches = []struct {
	literals, pattern, form string
	captures                []string
}{
	{"", "_", "5", nil}, {"", "_{1}", "x{2}", nil}, {"", "_", "(x (1))", nil}, {"", "_", "()", nil}, {"", "_", "...", nil},
	{"", "x", "5", []string{"x=5"}}, {"", "x{1}", "x{2}", []string{"x{1}=x{2}"}}, {"", "x", "()", []string{"x=()"}}, {"", "x", "(y{1} ...)", []string{"x=(y{1} ...)"}}, {"", "x", "_", []string{"x=_"}}, {"", "x", "\"_\"", []string{"x=\"_\""}},
	{"", "5", "5", nil}, {"", "-5", "-5", nil}, {"", "0", "0", nil}, {"", "#t", "#t", nil}, {"", "#f", "#f", nil}, {"", "\"a\"", "\"a\"", nil}, {"", "\"\"", "\"\"", nil}, {"", "()", "()", nil}, {"", "(1 \"x\" (#t) ())", "(1 \"x\" (#t) ())", nil},
	{"", "(x y)", "(1 (2 3))", []string{"x=1", "y=(2 3)"}}, {"", "(x x{1} _)", "(a b c)", []string{"x=a", "x{1}=b"}}, {"", "((x) 1 (y z))", "((a) 1 (b c))", []string{"x=a", "y=b", "z=c"}},
	{"", "(x ...)", "()", []string{"x^1[]"}}, {"", "(x ...)", "(5)", []string{"x^1[=5]"}}, {"", "(x ...{4})", "(5 (6) y{1} ...)", []string{"x^1[=5;=(6);=y{1};=...]"}},
	{"", "(x ... y)", "(1)", []string{"x^1[]", "y=1"}}, {"", "(x ... y)", "(1 2)", []string{"x^1[=1]", "y=2"}}, {"", "(x ... y)", "(1 2 3)", []string{"x^1[=1;=2]", "y=3"}}, {"", "(x y ... z w)", "(1 2 3)", []string{"x=1", "y^1[]", "z=2", "w=3"}}, {"", "(x y ... z w)", "(1 2 3 4 5)", []string{"x=1", "y^1[=2;=3]", "z=4", "w=5"}},
	{"", "(x y ...)", "(1)", []string{"x=1", "y^1[]"}}, {"", "(x y ...)", "(1 2 3)", []string{"x=1", "y^1[=2;=3]"}}, {"", "(_ ... x)", "(1 2 3)", []string{"x=3"}}, {"", "(_ ... x)", "(1)", []string{"x=1"}}, {"", "(1 ... 2)", "(1 1 1 2)", nil}, {"", "(1 ... 2)", "(2)", nil}, {"", "(1 ... 1)", "(1)", nil}, {"", "(1 ... 1)", "(1 1)", nil},
	{"", "((x y) ...)", "()", []string{"x^1[]", "y^1[]"}}, {"", "((x y) ...)", "((1 2) (3 4))", []string{"x^1[=1;=3]", "y^1[=2;=4]"}}, {"", "((x y) ... z)", "((1 2) (3 4))", []string{"x^1[=1]", "y^1[=2]", "z=(3 4)"}}, {"", "(z (x 5) ...)", "(a (b 5) (c 5))", []string{"z=a", "x^1[=b;=c]"}},
	{"", "((x ...) ...)", "()", []string{"x^2[]"}}, {"", "((x ...) ...)", "(())", []string{"x^2[^1[]]"}}, {"", "((x ...) ...)", "((1 2) () (3))", []string{"x^2[^1[=1;=2];^1[];^1[=3]]"}}, {"", "((x y ...) ...)", "((1 2 3) (4))", []string{"x^1[=1;=4]", "y^2[^1[=2;=3];^1[]]"}}, {"", "((x ... y) ...)", "((1 2 3) (4))", []string{"x^2[^1[=1;=2];^1[]]", "y^1[=3;=4]"}},
	{"", "(((x ...) ...) ... y)", "(((1) ()) () 5)", []string{"x^3[^2[^1[=1];^1[]];^2[]]", "y=5"}}, {"", "((z (x ...)) ...)", "((a (1 2)) (b ()))", []string{"z^1[=a;=b]", "x^2[^1[=1;=2];^1[]]"}}, {"", "((x ...) (y ...))", "((1) ())", []string{"x^1[=1]", "y^1[]"}},
	{"", "(((((_ ...) ...) ...) ...) ...)", "(((((5)))))", nil}, {"", "((_ x) ...)", "((1 2) (3 4))", []string{"x^1[=2;=4]"}}, {"", "(() ...)", "(() ())", nil},
	{"a", "a", "a", nil}, {"a", "a", "a{1,4}", nil}, {"a{1}", "a{1}", "a", nil}, {"a{1}", "(a a{1})", "(5 a)", []string{"a=5"}}, {"a", "(a a{1})", "(a a)", []string{"a{1}=a"}}, {"a", "(a ...)", "(a a{1} a)", nil}, {"a", "(a ... x)", "(a a a)", []string{"x=a"}}, {"a", "((a x) ...)", "((a 1) (a 2))", []string{"x^1[=1;=2]"}}, {"a b", "(b a x)", "(b a b)", []string{"x=b"}}, {"a a", "(a a)", "(a a)", nil},
}

// mismatches are forms that do not match.
var mismatches = []struct{ literals, pattern, form string }{
	{"", "5", "6"}, {"", "5", "-5"}, {"", "5", "\"5\""}, {"", "5", "x"}, {"", "5", "(5)"}, {"", "1", "#t"}, {"", "0", "#f"}, {"", "0", "()"}, {"", "#t", "#f"}, {"", "#t", "1"}, {"", "#f", "()"}, {"", "\"a\"", "\"b\""}, {"", "\"a\"", "a"}, {"", "\"a\"", "\"A\""}, {"", "\"\"", "()"}, {"", "\"a\"", "\"\""},
	{"", "()", "(1)"}, {"", "()", "5"}, {"", "()", "x"}, {"", "()", "0"}, {"", "()", "#f"}, {"", "()", "\"\""}, {"", "(x)", "()"}, {"", "(x)", "(1 2)"}, {"", "(x)", "5"}, {"", "(x)", "x"}, {"", "(x y)", "(1)"}, {"", "(x y)", "(1 2 3)"}, {"", "(_)", "()"}, {"", "(_)", "\"_\""}, {"", "(x (y))", "(1 2)"}, {"", "(x (y))", "(1 (2 3))"}, {"", "(x 5)", "(1 6)"}, {"", "(5 x)", "(6 x)"}, {"", "(x ...)", "5"}, {"", "(x ...)", "x"}, {"", "(x ...)", "\"a\""}, {"", "(_ ...)", "#f"},
	{"", "(x ... y)", "()"}, {"", "(x y ... z)", "(1)"}, {"", "(x y ...)", "()"}, {"", "(x y ... z w)", "(1 2)"}, {"", "(_ ... _ _)", "(1)"}, {"", "(1 ...)", "(1 2)"}, {"", "(1 ...)", "(2)"}, {"", "(1 ...)", "(1 1 2 1)"}, {"", "(1 ... 2)", "(1 1)"}, {"", "(1 ... 2)", "(2 2)"}, {"", "(1 ... 2)", "()"}, {"", "(1 2 ...)", "(2 2)"}, {"", "(1 2 ... 3)", "(1 2 4)"},
	{"", "((x y) ...)", "((1 2) (3))"}, {"", "((x y) ...)", "((1 2) 3)"}, {"", "((x y) ...)", "((1 2 3))"}, {"", "((x ...) ...)", "(5)"}, {"", "((x ...) ...)", "(() 5)"}, {"", "((x y ...) ...)", "((1) ())"}, {"", "((x ... 5) ...)", "((5) (1 2))"}, {"", "(() ...)", "(() (1))"}, {"", "((x 1) ... z)", "((a 1) (b 2) c)"},
	{"a", "a", "b"}, {"a", "a", "5"}, {"a", "a", "(a)"}, {"a", "a", "\"a\""}, {"a", "a", "()"}, {"a{1}", "a{1}", "b{1}"}, {"a", "(a ...)", "(a b)"}, {"a", "(a ...)", "(a \"a\")"}, {"a", "(a ... 5)", "(a a)"}, {"a b", "(b a)", "(a b)"}, {"a", "a", "_"}, {"a", "a", "..."},
}

func TestMatchPattern(t *testing.T) {
	for _, list := range [][]impl.Binding{nil, impl.CoreBindings(), manyBindings(1000)} {
		for _, c := range matches {
			got, ok := impl.MatchPattern(list, mustReadForms(t, c.literals), mustReadForm(t, c.pattern), mustReadForm(t, c.form))
			if want := mustReadCaptures(t, c.captures...); !ok || !sameCaptures(got, want) {
				t.Errorf("MatchPattern of (%s), %s and %s = %s, %v", c.literals, c.pattern, c.form, showCaptures(got), ok)
			}
		}
		for _, c := range mismatches {
			checkNoMatch(t, list, mustReadForms(t, c.literals), mustReadForm(t, c.pattern), mustReadForm(t, c.form))
		}
	}
}

func checkNoMatch(t *testing.T, list []impl.Binding, literals []impl.Syntax, pattern, s impl.Syntax) {
	t.Helper()
	if got, ok := impl.MatchPattern(list, literals, pattern, s); ok || len(got) != 0 {
		t.Errorf("MatchPattern with %.200s of %.200s, %.200s and %.200s = %.200s, %v", showBindings(list...), showForm(form(literals...)), showForm(pattern), showForm(s), showCaptures(got), ok)
	}
}

// A literal matches what it means, under each name.
func TestLiteralsMatchByMeaning(t *testing.T) {
	list := []impl.Binding{
		variable(1, "a", 1), variable(1, "b", 4), variable(2, "c"), binding(impl.BindingMacro, 1, "d"), variable(3, "a", 7), variable(3, "e", 1), variable(4, "e", 2), binding(impl.BindingForm, 2, "if"), binding(impl.BindingForm, 2, "when"), binding(impl.BindingPrimitive, 2, "g"),
	}
	ids := mustReadForms(t, "a a{1} a{1,2} a{7} a{1,7} b b{4} b{1,4} c c{3} d e e{1} e{2} e{1,2} if if{5} when g g{1} x x{1} y \"a\" 5 () (a) a{4}")
	for _, literal := range ids {
		if literal.Kind != impl.DatumSymbol {
			continue
		}
		for _, id := range ids {
			want := impl.SameMeaning(list, literal, id)
			for _, pattern := range []impl.Syntax{literal, form(literal, identifier("...")), form(identifier("_"), form(literal))} {
				s := id
				if len(pattern.Items) > 0 && hasDots(pattern.Items[1]) {
					s = form(literal, id)
				} else if len(pattern.Items) > 0 {
					s = form(leaves(1)[0], form(id))
				}
				ambiguous := len(pattern.Items) > 0 && hasDots(pattern.Items[1]) && !impl.SameMeaning(list, literal, literal)
				if got, ok := impl.MatchPattern(list, []impl.Syntax{literal}, pattern, s); ok != (want && !ambiguous) || len(got) != 0 {
					t.Errorf("MatchPattern of %s and %s = %s, %v", impl.FormatSyntax(pattern), impl.FormatSyntax(s), showCaptures(got), ok)
				}
			}
		}
	}
	known := []struct {
		literal, form string
		want          bool
	}{{"a{1}", "b{4}", true}, {"a{1}", "b", false}, {"if", "when", true}, {"if", "g", false}, {"x", "x{1}", true}, {"x", "y", false}, {"a{1,7}", "a{1,7}", false}, {"a", "a{4}", true}, {"a", "a{1}", false}, {"c", "g", false}, {"a{7}", "e{1}", true}, {"d", "a{1}", false}}
	for _, c := range known {
		literal := mustReadForm(t, c.literal)
		if _, ok := impl.MatchPattern(list, []impl.Syntax{literal}, literal, mustReadForm(t, c.form)); ok != c.want {
			t.Errorf("the literal %s matches %s: %v", c.literal, c.form, ok)
		}
	}
}

func TestMatchPatternOfInvalidArguments(t *testing.T) {
	a, x := []impl.Syntax{identifier("a")}, identifier("x")
	for _, list := range badLists() {
		checkNoMatch(t, list, nil, x, x)
		checkNoMatch(t, list, nil, form(), form())
		checkNoMatch(t, list, a, a[0], a[0])
	}
	for _, s := range badForms() {
		checkNoMatch(t, nil, nil, x, s)
		checkNoMatch(t, nil, nil, identifier("_"), s)
		checkNoMatch(t, nil, a, form(x, identifier("...")), form(s))
		checkNoMatch(t, nil, a, form(x, identifier("_")), form(x, s))
		checkNoMatch(t, nil, nil, s, s)
		checkNoMatch(t, nil, nil, form(s), form(form()))
		checkNoMatch(t, nil, []impl.Syntax{s}, x, x)
	}
	for _, c := range badPatterns {
		literals, pattern := mustReadForms(t, c.literals), mustReadForm(t, c.pattern)
		for _, source := range []string{"()", "(x)", "(x x)", "(((())))", "5"} {
			checkNoMatch(t, impl.CoreBindings(), literals, pattern, mustReadForm(t, source))
		}
	}
}

func TestMatchLargeForms(t *testing.T) {
	for _, s := range goodForms() {
		if got, ok := impl.MatchPattern(nil, nil, identifier("x", 5), s); !ok || !sameCaptures(got, []impl.Capture{one(identifier("x", 5), s)}) {
			t.Errorf("MatchPattern of a variable and %.200s = %.200s, %v", showForm(s), showCaptures(got), ok)
		}
		if got, ok := impl.MatchPattern(nil, nil, identifier("_"), s); !ok || len(got) != 0 {
			t.Errorf("MatchPattern of a wildcard and %.200s = %.200s, %v", showForm(s), showCaptures(got), ok)
		}
	}
	numbers := leaves(1999)
	got, ok := impl.MatchPattern(nil, nil, mustReadForm(t, "(x ... y)"), form(numbers...))
	if !ok || len(got) != 2 || len(got[0].Each) != 1998 || got[0].Each[1997].Form.Number != 1997 || got[1].Form.Number != 1998 {
		t.Errorf("MatchPattern of 1999 items = %.200s, %v", showCaptures(got), ok)
	}
	names := manyNames(1999)
	got, ok = impl.MatchPattern(nil, nil, form(names...), form(numbers...))
	if !ok || len(got) != 1999 || !sameCaptures(got[1998:], []impl.Capture{one(names[1998], numbers[1998])}) {
		t.Errorf("MatchPattern with 1999 variables = %.200s, %v", showCaptures(got), ok)
	}
	// As many captures as a small form can have of a pattern.
	got, ok = impl.MatchPattern(nil, nil, form(form(form(names[:300]...), identifier("...")), identifier("...")), form(make([]impl.Syntax, 300)...))
	if !ok || len(got) != 300 || len(got[299].Each) != 300 || !sameCaptures(got[299].Each[299:], []impl.Capture{many(names[299], 1)}) {
		t.Errorf("MatchPattern of 300 empty lists = %.200s, %v", showCaptures(got), ok)
	}
	same := make([]impl.Syntax, 1999)
	for i := range same {
		same[i] = identifier("x", i+1)
	}
	pattern := form(identifier("x", 7), identifier("..."))
	if _, ok := impl.MatchPattern(manyBindings(1000), []impl.Syntax{identifier("x", 7)}, pattern, form(same...)); !ok {
		t.Error("1999 identifiers do not match a literal of the same meaning")
	}
	if _, ok := impl.MatchPattern(manySets(200, "x"), []impl.Syntax{identifier("x", 7)}, pattern, form(append(same[:1998:1998], identifier("x", 1, 50000))...)); ok {
		t.Error("an identifier that is bound matches a literal that is not")
	}
}

func TestMatchPatternOfAnyForm(t *testing.T) {
	g := generator(71)
	count := 0
	for range 8000 {
		literals := g.literals()
		pattern := form(g.pattern(3), g.pattern(2))
		if g.below(4) == 0 {
			pattern = form(g.pattern(3), identifier("..."), g.pattern(2))
		}
		s := g.fitting(pattern)
		if g.below(100) == 0 {
			s = g.strangeSyntax(2)
		}
		list := g.bindings(10)
		want, ok := describedCaptures(list, literals, pattern, s)
		got, gotOk := impl.MatchPattern(list, literals, pattern, s)
		if ok != gotOk || !sameCaptures(got, want) {
			t.Fatalf("MatchPattern with %s of (%s), %s and %s = %s, %v, want %s, %v", showBindings(list...), showForm(form(literals...)), impl.FormatSyntax(pattern), showForm(s), showCaptures(got), gotOk, showCaptures(want), ok)
		}
		if len(got) > 0 {
			count++
		}
	}
	if count < 1200 {
		t.Errorf("only %d of the forms match", count)
	}
}

// Each small pattern and each small form of the same alphabet.
func TestMatchPatternOfEachSmallForm(t *testing.T) {
	forms := smallForms(3)
	eachString("xl.(1", 4, func(s string) {
		var pattern impl.Syntax
		items := []impl.Syntax{}
		names := 0
		for i, c := range s {
			switch c {
			case 'x':
				items = append(items, identifier([]string{"x", "y", "z", "w"}[names]))
				names++
			case 'l':
				items = append(items, identifier("l"))
			case '.':
				items = append(items, identifier("..."))
			case '1':
				items = append(items, leaves(2)[1])
			default:
				items = append(items, form(identifier([]string{"a", "b", "c", "d"}[i]), identifier("...")))
			}
		}
		pattern = form(items...)
		literals := []impl.Syntax{identifier("l")}
		for _, s := range forms {
			want, ok := describedCaptures(nil, literals, pattern, s)
			got, gotOk := impl.MatchPattern(nil, literals, pattern, s)
			if ok != gotOk || !sameCaptures(got, want) {
				t.Fatalf("MatchPattern of %s and %s = %s, %v, want %s, %v", impl.FormatSyntax(pattern), impl.FormatSyntax(s), showCaptures(got), gotOk, showCaptures(want), ok)
			}
		}
	})
}

// smallForms returns all lists of at most this many items of a few kinds.
func smallForms(most int) []impl.Syntax {
	kinds := []impl.Syntax{identifier("l", 4), leaves(2)[1], form(), form(identifier("q"), leaves(1)[0]), identifier("q")}
	result := []impl.Syntax{form()}
	last := result
	for range most {
		var next []impl.Syntax
		for _, s := range last {
			for _, item := range kinds {
				next = append(next, form(append(s.Items[:len(s.Items):len(s.Items)], item)...))
			}
		}
		result = append(result, next...)
		last = next
	}
	return result
}

func TestEqualCaptures(t *testing.T) {
	x, y := identifier("x"), identifier("x", 1)
	lists := [][]impl.Capture{
		nil, {{}}, {{}, {}}, {one(x, y)}, {one(y, x)}, {one(x, x)}, {one(x, y), one(x, y)}, {one(x, y), one(y, x)}, {one(y, x), one(x, y)}, {{Name: x, Depth: 1, Form: y}}, {{Name: x, Depth: -1, Form: y}}, {{Name: x, Depth: greatestInt, Form: y}}, {many(x, 1)}, {many(x, 2)}, {many(x, 1, one(x, y))}, {many(x, 1, one(x, x))}, {many(x, 1, one(y, x))}, {many(x, 1, one(x, y), one(x, y))},
		{many(x, 2, many(x, 1))}, {many(x, 2, many(x, 0))}, {many(x, 2, many(x, 1, one(x, y)))}, {many(x, 2, many(x, 1, one(x, y)), many(x, 1))}, {many(x, 2, many(x, 1), many(x, 1, one(x, y)))}, {{Name: impl.Syntax{Kind: 9}}}, {{Name: impl.Syntax{Kind: 8}}}, {{Form: impl.Syntax{Number: 9}}}, {{Form: impl.Syntax{Scopes: []int{1}}}}, {{Name: impl.Syntax{Scopes: []int{1}}}}, {{Form: nestedForms(deepNesting)}}, {{Name: nestedForms(deepNesting)}},
		{deepCapture(deepNesting, x)}, {deepCapture(deepNesting, y)}, {deepCapture(deepNesting-1, x)}, {deepCapture(3, x), {}},
	}
	for i, a := range lists {
		for j, b := range lists {
			if got := impl.EqualCaptures(a, b); got != (i == j) || got != sameCaptures(a, b) {
				t.Errorf("EqualCaptures(%.200s, %.200s) = %v", showCaptures(a), showCaptures(b), got)
			}
		}
	}
	if !impl.EqualCaptures([]impl.Capture{}, nil) || !impl.EqualCaptures(nil, []impl.Capture{}) || !impl.EqualCaptures([]impl.Capture{{Each: []impl.Capture{}}}, []impl.Capture{{}}) {
		t.Error("nil and empty lists are not equal")
	}
}

// deepCapture returns captures within captures.
func deepCapture(depth int, name impl.Syntax) impl.Capture {
	c := one(name, name)
	for range depth {
		c = impl.Capture{Each: []impl.Capture{c}}
	}
	return c
}

func TestEqualCapturesOfAnyCaptures(t *testing.T) {
	g := generator(73)
	for range 3000 {
		seed := g
		a := g.captures(3, 2)
		b := seed.captures(3, 2)
		c := g.captures(3, 2)
		if !impl.EqualCaptures(a, b) || impl.EqualCaptures(a, c) != sameCaptures(a, c) || impl.EqualCaptures(c, a) != sameCaptures(a, c) {
			t.Fatalf("EqualCaptures of %s and %s", showCaptures(a), showCaptures(c))
		}
	}
}
