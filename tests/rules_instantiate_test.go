package tests

import (
	"testing"

	"loop.example/g03220/impl"
)

// instances has captures as mustReadCaptures reads them, a template, and the
// result.
var instances = []struct {
	captures       []string
	template, want string
}{
	{nil, "5", "5"}, {nil, "x{1}", "x{1}"}, {nil, "()", "()"}, {nil, "(x (1 \"a\" #t) ())", "(x (1 \"a\" #t) ())"}, {nil, "_", "_"}, {nil, "\"...\"", "\"...\""},
	{[]string{"x=5"}, "x", "5"}, {[]string{"x=(y{1} x)"}, "x", "(y{1} x)"}, {[]string{"x=(y{1} x)"}, "(x x{1} (x) y)", "((y{1} x) x{1} ((y{1} x)) y)"}, {[]string{"x=y", "y=x"}, "(x y)", "(y x)"}, {[]string{"x=x"}, "(x ())", "(x ())"}, {[]string{"x{1,4}=5"}, "(x x{1} x{1,4} x{4})", "(x x{1} 5 x{4})"},
	{[]string{"x=..."}, "(x 1)", "(... 1)"}, {[]string{"x=(... ...)"}, "(1 x x)", "(1 (... ...) (... ...))"}, {[]string{"x=...{1}"}, "x", "...{1}"}, {[]string{"_=5"}, "(_ _{1})", "(5 _{1})"}, {[]string{"x=5"}, "(\"x\" 1)", "(\"x\" 1)"},
	{[]string{"x^1[=1;=2]"}, "(x ...)", "(1 2)"}, {[]string{"x^1[]"}, "(x ...)", "()"}, {[]string{"x^1[=1;=2]"}, "(0 x ...{3} 3)", "(0 1 2 3)"}, {[]string{"x^1[=1;=2]"}, "(x ... x ...)", "(1 2 1 2)"}, {[]string{"x^1[=1;=2]"}, "((x x 5) ...)", "((1 1 5) (2 2 5))"}, {[]string{"x^1[=1;=2]"}, "((z (x)) ... x ...)", "((z (1)) (z (2)) 1 2)"}, {[]string{"x^1[]"}, "(a (x b) ... c)", "(a c)"},
	{[]string{"x^1[=1;=2]", "y=5"}, "((x y) ... y)", "((1 5) (2 5) 5)"}, {[]string{"x^1[=1;=2]", "y^1[=3;=4]"}, "((x y) ...)", "((1 3) (2 4))"}, {[]string{"x^1[=1;=2]", "y^1[=3]"}, "(x ... y ...)", "(1 2 3)"}, {[]string{"x^1[=1;=2]", "y^1[=3]"}, "((x 0) ... (y 0) ...)", "((1 0) (2 0) (3 0))"}, {[]string{"x^1[=1;=2]", "y^1[=3;=4;=5]"}, "(x ...)", "(1 2)"},
	{[]string{"x^2[^1[=1;=2];^1[];^1[=3]]"}, "((x ...) ...)", "((1 2) () (3))"}, {[]string{"x^2[^1[=1;=2];^1[];^1[=3]]"}, "((0 x ... 4) ...)", "((0 1 2 4) (0 4) (0 3 4))"}, {[]string{"x^2[^1[=1;=2];^1[=3]]", "y^1[=7;=8]"}, "((y x ...) ...)", "((7 1 2) (8 3))"}, {[]string{"x^2[^1[=1;=2];^1[=3]]", "y^1[=7;=8]"}, "(((y x) ...) ...)", "(((7 1) (7 2)) ((8 3)))"}, {[]string{"x^2[]"}, "((x ...) ...)", "()"},
	{[]string{"x^2[^1[=1;=2];^1[=3]]", "y=5"}, "(((y x) ... y) ...)", "(((5 1) (5 2) 5) ((5 3) 5))"}, {[]string{"x^2[^1[=1;=2];^1[=3]]", "y^2[^1[=4;=5];^1[=6]]"}, "(((x y) ...) ...)", "(((1 4) (2 5)) ((3 6)))"}, {[]string{"x^3[^2[^1[=1];^1[]];^2[]]"}, "(((x ...) ...) ...)", "(((1) ()) ())"}, {[]string{"x^3[^2[^1[=1;=2];^1[=3]]]"}, "(1 ((2 (x ...)) ...) ...)", "(1 ((2 (1 2)) (2 (3))))"},
	{[]string{"x^1[=(...);=...]"}, "(x ... 1)", "((...) ... 1)"}, {[]string{"x^4[^3[^2[^1[=1]]]]"}, "((((x ...) ...) ...) ...)", "((((1))))"},
	{[]string{"x=1", "x=2"}, "x", "1"}, {[]string{"x^1[=1]", "x=2"}, "(x ...)", "(1)"}, {[]string{"x=1", "x^1[=2]"}, "(x)", "(1)"}, {[]string{"x^1[=1]", "x^1[=2;=3]", "y^1[=4]"}, "((x y) ...)", "((1 4))"},
	{[]string{"...=5"}, "(1)", "(1)"}, {[]string{"...=5", "x^1[=1;=2]"}, "(x ...)", "(1 2)"}, {[]string{"...^1[=5]", "x^1[=1;=2]"}, "((x 0) ...)", "((1 0) (2 0))"}, {[]string{"x^1[=1]", "y=x"}, "((x y) ...)", "((1 x))"},
	// What is not instantiated may lack variables.
	{[]string{"x^1[]", "y=5"}, "((x y ...) ...)", "()"}, {[]string{"x^1[]"}, "((x 1 ...) ...)", "()"}, {[]string{"x^2[]"}, "(x ...)", "()"}, {[]string{"x^2[]"}, "((x x) ...)", "()"}, {[]string{"x^2[^1[];^1[]]"}, "((x ...) ...)", "(() ())"}, {[]string{"x^2[^1[]]"}, "(((x y ...) ...) ...)", "(())"}, {[]string{"x^2[]", "y^1[]"}, "((x (y ...) ...) ...)", "()"},
}

// noInstances fail, most of them for one reason.
var noInstances = []struct {
	captures []string
	template string
}{
	{nil, "..."}, {nil, "(...)"}, {nil, "(... 1)"}, {[]string{"x^1[=1]"}, "(x ... ...)"}, {[]string{"x^2[^1[=1]]"}, "(x ... ...)"}, {[]string{"x^1[=1]"}, "(1 (... x))"}, {[]string{"...=5"}, "..."}, {[]string{"...{1}=5"}, "...{1}"}, {[]string{"...=5"}, "(... 1)"}, {[]string{"...=5"}, "(...)"}, {[]string{"...^1[=5]"}, "(1 ...)"}, {[]string{"...^1[=5]"}, "(... ...)"}, {[]string{"x^1[=1]", "...=5"}, "(x ... ...)"},
	{[]string{"x^1[]"}, "((x (...)) ...)"}, {[]string{"x^1[]"}, "((x ... ...) ...)"}, {[]string{"x^1[]"}, "((... x) ...)"}, {[]string{"x^1[]"}, "((x (y ... ...)) ...)"}, {[]string{"x^1[]"}, "(x ... ...)"}, {[]string{"x^2[]"}, "(((... x) ...) ...)"},
	{[]string{"x^1[=1]"}, "x"}, {[]string{"x^1[]"}, "x"}, {[]string{"x^1[=1]"}, "(x)"}, {[]string{"x^1[=1]"}, "(x ... x)"}, {[]string{"x^2[^1[=1]]"}, "(x ...)"}, {[]string{"x^2[^1[]]"}, "(x ...)"}, {[]string{"x^1[=1]", "y^1[=2]"}, "(x ... y)"}, {[]string{"x^2[^1[=1]]", "y^1[=1]"}, "((x y) ...)"}, {[]string{"x^1[=1]", "x=5"}, "x"},
	{nil, "(x ...)"}, {nil, "(1 ...)"}, {nil, "(() ...)"}, {[]string{"x=5"}, "(x ...)"}, {[]string{"x=5"}, "((x 1) ...)"}, {[]string{"x^1[=1]"}, "(y ...)"}, {[]string{"x^1[=1]"}, "(x{1} ...)"}, {[]string{"x^1[=1]"}, "(x ... 1 ...)"}, {[]string{"x^1[=1]"}, "((x 1 ...) ...)"}, {[]string{"x^1[=1]"}, "((x ...) ...)"}, {[]string{"x^1[=1]", "y=5"}, "((x y ...) ...)"}, {[]string{"x^1[=1;=2]", "y^1[=3;=4]"}, "((x y ...) ...)"}, {[]string{"x=5", "x^1[=1]"}, "(x ...)"}, {[]string{"...^1[=1]"}, "(1 ...)"},
	{[]string{"x^1[=1;=2]", "y^1[=3]"}, "((x y) ...)"}, {[]string{"x^1[=1]", "y^1[]"}, "((x y) ...)"}, {[]string{"x^1[]", "y^1[=1]"}, "((x y) ...)"}, {[]string{"x^1[=1]", "y^1[=2]", "z^1[=3;=4]"}, "((x (y (z))) ...)"}, {[]string{"x^2[^1[=1;=2]]", "y^2[^1[=3]]"}, "(((x y) ...) ...)"}, {[]string{"x^2[^1[=1]]", "y^1[=3;=4]"}, "((y x ...) ...)"}, {[]string{"x^1[=1;=2]", "y^1[=3]"}, "((x (y ...)) ...)"}, {[]string{"x^2[^1[=1];^1[]]", "y^2[^1[=3];^1[=4]]"}, "(((x y) ...) ...)"},
}

func TestInstantiate(t *testing.T) {
	for _, c := range instances {
		got, ok := impl.Instantiate(mustReadForm(t, c.template), mustReadCaptures(t, c.captures...))
		if !ok || !sameSyntax(got, mustReadForm(t, c.want)) {
			t.Errorf("Instantiate(%s, %v) = %s, %v, want %s", c.template, c.captures, impl.FormatSyntax(got), ok, c.want)
		}
	}
	for _, c := range noInstances {
		checkNoInstance(t, mustReadForm(t, c.template), mustReadCaptures(t, c.captures...))
	}
}

func checkNoInstance(t *testing.T, template impl.Syntax, captures []impl.Capture) {
	t.Helper()
	if got, ok := impl.Instantiate(template, captures); ok || !isZero(got) {
		t.Errorf("Instantiate(%.200s, %.200s) = %.200s, %v", showForm(template), showCaptures(captures), showForm(got), ok)
	}
}

func checkInstance(t *testing.T, template impl.Syntax, captures []impl.Capture, want impl.Syntax) {
	t.Helper()
	if got, ok := impl.Instantiate(template, captures); !ok || !sameSyntax(got, want) {
		t.Errorf("Instantiate(%.200s, %.200s) = %.200s, %v, want %.200s", showForm(template), showCaptures(captures), showForm(got), ok, showForm(want))
	}
}

// Captures whose fields do not fit together, as MatchPattern makes none.
func TestInstantiateWithAnyCaptures(t *testing.T) {
	x, y, z := identifier("x"), identifier("y"), identifier("z")
	five, six := plain(number(5)), plain(number(6))
	repeated := mustReadForm(t, "(x ...)")
	for _, depth := range []int{-1, 1, 2, leastInt, greatestInt} {
		checkNoInstance(t, x, []impl.Capture{{Name: x, Depth: depth, Form: five}})
		checkInstance(t, y, []impl.Capture{{Name: x, Depth: depth, Form: five}}, y)
		checkNoInstance(t, repeated, []impl.Capture{many(x, 1, impl.Capture{Name: x, Depth: depth, Form: five})})
		checkInstance(t, repeated, []impl.Capture{{Name: x, Depth: max(depth, 1), Form: impl.Syntax{Kind: 9}}}, form())
	}
	for _, depth := range []int{0, -1, leastInt} {
		checkNoInstance(t, repeated, []impl.Capture{{Name: x, Depth: depth, Form: five, Each: []impl.Capture{one(x, five)}}})
		checkNoInstance(t, mustReadForm(t, "((x y) ...)"), []impl.Capture{{Name: x, Depth: depth, Form: five, Each: []impl.Capture{one(x, five)}}})
	}
	// The Depth of an element counts, not that of what it is an element of.
	checkInstance(t, repeated, []impl.Capture{many(x, 7, one(x, five), one(x, six))}, form(five, six))
	checkNoInstance(t, mustReadForm(t, "((x ...) ...)"), []impl.Capture{many(x, 2, one(x, five))})
	checkInstance(t, mustReadForm(t, "((x ...) ...)"), []impl.Capture{many(x, 1, many(x, 5, one(x, five)))}, form(form(five)))
	checkNoInstance(t, repeated, []impl.Capture{many(x, 1, many(x, 1, one(x, five)))})
	checkNoInstance(t, repeated, []impl.Capture{many(x, 1, one(x, five), many(x, 1, one(x, five)))})
	// A Depth of 0 is that of the Form, whatever Each there is.
	checkInstance(t, form(x, x), []impl.Capture{{Name: x, Form: five, Each: []impl.Capture{{Depth: -4}, {}}}}, form(five, five))
	checkInstance(t, mustReadForm(t, "((x y) ...)"), []impl.Capture{many(y, 1, one(y, six)), {Name: x, Form: five, Each: make([]impl.Capture, 3)}}, form(form(five, six)))
	// Elements with another name are captures of that name.
	checkInstance(t, repeated, []impl.Capture{many(x, 1, one(y, five))}, form(x))
	checkInstance(t, mustReadForm(t, "((x y z) ...)"), []impl.Capture{many(x, 1, one(y, five), one(x, six), one(z, five))}, form(form(x, five, z), form(six, y, z), form(x, y, five)))
	checkInstance(t, mustReadForm(t, "((x y) ...)"), []impl.Capture{many(x, 1, one(y, five)), one(y, six)}, form(form(x, five)))
	checkInstance(t, mustReadForm(t, "((x y) ... y)"), []impl.Capture{one(y, six), many(x, 1, one(y, five))}, form(form(x, six), six))
	checkInstance(t, mustReadForm(t, "((x z) ...)"), []impl.Capture{many(x, 1, one(z, five)), one(x, six)}, form(form(six, five)))
	checkNoInstance(t, mustReadForm(t, "((x z) ...)"), []impl.Capture{many(x, 1, one(z, five)), many(x, 1, one(x, six))})
	checkInstance(t, mustReadForm(t, "((x (y ...)) ...)"), []impl.Capture{many(x, 1, many(y, 1, one(y, five), one(y, six)))}, impl.Syntax{Items: []impl.Syntax{form(x, form(five, six))}})
	checkNoInstance(t, mustReadForm(t, "((x (y ...)) ...)"), []impl.Capture{many(x, 1, many(z, 1, one(y, five)))})
	checkInstance(t, repeated, []impl.Capture{many(x, 1, one(identifier("..."), five), impl.Capture{}, one(impl.Syntax{Kind: 9}, five))}, form(x, x, x))
}

func TestInstantiateWithNamesThatAreNone(t *testing.T) {
	x := one(identifier("x"), plain(number(5)))
	for _, s := range append(noIdentifiers(), badForms()...) {
		for _, captures := range [][]impl.Capture{{one(s, leaves(1)[0])}, {one(s, leaves(1)[0]), x}, {{Name: s, Depth: 1}, x}, {{Name: s, Depth: -1}, x}} {
			checkInstance(t, mustReadForm(t, "(y 1 () #t \"x\" (x{1}) a{2})"), captures, mustReadForm(t, "(y 1 () #t \"x\" (x{1}) a{2})"))
			checkInstance(t, form(), captures, form())
		}
		checkNoInstance(t, form(plain(number(1)), identifier("...")), []impl.Capture{many(s, 1, one(s, s))})
	}
	// Names that equal a node of the template which is no identifier.
	for _, source := range []string{"1", "#t", "\"x\"", "()", "(x)"} {
		s := mustReadForm(t, source)
		checkInstance(t, form(s), []impl.Capture{one(s, plain(number(7)))}, form(s))
		checkInstance(t, s, []impl.Capture{{Name: s, Depth: 1}}, s)
		checkNoInstance(t, form(s, identifier("...")), []impl.Capture{many(s, 1, one(s, s))})
	}
}

func TestInstantiateWithInvalidForms(t *testing.T) {
	x := identifier("x")
	for _, s := range badForms() {
		checkNoInstance(t, s, nil)
		checkNoInstance(t, form(x, s), []impl.Capture{one(x, leaves(1)[0])})
		checkNoInstance(t, x, []impl.Capture{one(x, s)})
		checkNoInstance(t, form(plain(number(1)), x), []impl.Capture{one(x, s)})
		checkNoInstance(t, mustReadForm(t, "(x ...)"), []impl.Capture{many(x, 1, one(x, x), one(x, s))})
		checkNoInstance(t, mustReadForm(t, "((x y) ...)"), []impl.Capture{many(x, 1, one(x, x)), one(identifier("y"), s)})
		// A form that is not used does not matter.
		checkInstance(t, identifier("y"), []impl.Capture{one(x, s)}, identifier("y"))
		checkInstance(t, x, []impl.Capture{one(x, form()), one(x, s)}, form())
		checkInstance(t, mustReadForm(t, "((x y) ...)"), []impl.Capture{many(x, 1), one(identifier("y"), s)}, form())
	}
	for _, s := range goodForms() {
		checkInstance(t, x, []impl.Capture{one(x, s)}, s)
		if !hasDots(s) {
			checkInstance(t, s, []impl.Capture{one(x, s)}, s)
		}
	}
}

func TestInstantiateUpToTheLimits(t *testing.T) {
	x, y := identifier("x"), identifier("y")
	for extra, ok := range []bool{true, false} {
		for _, c := range []struct {
			template impl.Syntax
			captures []impl.Capture
		}{
			{form(x), []impl.Capture{one(x, form(leaves(1998+extra)...))}}, {form(x, x), []impl.Capture{one(x, form(leaves(998)...)), one(y, x)}}, {form(x, form(leaves(998)...)), []impl.Capture{one(x, form(leaves(999+extra)...))}}, {form(form(leaves(998)...), x), []impl.Capture{one(x, form(leaves(999+extra)...))}},
			{form(x, identifier("...")), []impl.Capture{many(x, 1, manyForms(x, 1999+extra)...)}}, {form(form(x, plain(number(1))), identifier("...")), []impl.Capture{many(x, 1, manyForms(x, 666+extra)...)}},
			{deepIdentifierWithTop(39, x), []impl.Capture{one(x, nestedForms(2+extra))}}, {deepIdentifierWithTop(40, x), []impl.Capture{one(x, nestedForms(1+extra))}}, {deepIdentifierWithTop(1, x), []impl.Capture{one(x, nestedForms(40+extra))}}, {form(form(x), identifier("...")), []impl.Capture{many(x, 1, one(x, form()), one(x, nestedForms(38+extra)))}},
		} {
			want, described := describedResult(c.template, c.captures)
			got, gotOk := impl.Instantiate(c.template, c.captures)
			if gotOk != described || !sameSyntax(got, want) {
				t.Errorf("Instantiate(%.200s, %.200s) = %.200s, %v, want %v", showForm(c.template), showCaptures(c.captures), showForm(got), gotOk, described)
			}
			if !gotOk && ok {
				t.Errorf("Instantiate(%.200s, %.200s) fails", showForm(c.template), showCaptures(c.captures))
			}
		}
	}
	// The last node is a list, or an identifier of the template.
	for _, source := range []string{"(x ... ())", "(x ... y)", "((x ...))", "(() x ...)", "(x ... \"a\")"} {
		for count := 1990; count <= 2005; count++ {
			template := mustReadForm(t, source)
			captures := []impl.Capture{many(x, 1, manyForms(x, count)...)}
			want, described := describedResult(template, captures)
			got, ok := impl.Instantiate(template, captures)
			if ok != described || ok != (count <= 1998) || !sameSyntax(got, want) {
				t.Errorf("Instantiate(%s) of %d repetitions = %.200s, %v", source, count, showForm(got), ok)
			}
		}
	}
	for count, ok := range map[int]bool{1998: true, 1999: true, 2000: false, 2001: false, 100000: false} {
		if got, gotOk := impl.Instantiate(mustReadForm(t, "(x ...)"), []impl.Capture{many(x, 1, manyForms(x, count)...)}); gotOk != ok || ok && len(got.Items) != count {
			t.Errorf("Instantiate of %d repetitions is %v", count, gotOk)
		}
	}
}

// deepIdentifierWithTop returns lists of this depth around s, counting s.
func deepIdentifierWithTop(depth int, s impl.Syntax) impl.Syntax {
	for range depth - 1 {
		s = form(s)
	}
	return s
}

func manyForms(name impl.Syntax, count int) []impl.Capture {
	result := make([]impl.Capture, count)
	for i := range result {
		result[i] = one(name, plain(number(i)))
	}
	return result
}

// Captures that share memory stand for far more than they hold.
func TestInstantiateOfHugeResults(t *testing.T) {
	x := identifier("x")
	each := manyForms(x, 1000)
	template := form(x, identifier("..."))
	for depth := 2; depth <= 12; depth++ {
		next := many(x, depth-1, each...)
		each = make([]impl.Capture, 1000)
		for i := range each {
			each[i] = next
		}
		template = form(template, identifier("..."))
		checkNoInstance(t, template, []impl.Capture{many(x, depth, each...)})
	}
	large := form(leaves(1990)...)
	checkNoInstance(t, mustReadForm(t, "(x ...)"), []impl.Capture{many(x, 1, one(x, large), one(x, large))})
	checkNoInstance(t, mustReadForm(t, "((x y) ...)"), []impl.Capture{one(identifier("y"), large), many(x, 1, manyForms(x, 100000)...)})
}

func TestInstantiateWithManyCaptures(t *testing.T) {
	names := manyNames(999)
	var items []impl.Syntax
	var captures []impl.Capture
	for i, name := range names {
		items = append(items, name, identifier("..."))
		captures = append(captures, many(name, 1, one(name, plain(number(i)))))
	}
	checkInstance(t, form(items...), captures, form(leaves(999)...))
	var others []impl.Capture
	for _, name := range manyNames(50000) {
		name.Scopes = []int{3}
		others = append(others, one(name, name))
	}
	checkInstance(t, form(items...), append(others, captures...), form(leaves(999)...))
	checkInstance(t, mustReadForm(t, "((n7{1,5} n49999{3}) ...)"), append(others, captures...), mustReadForm(t, "((7 n49999{3}))"))
}

func TestInstantiateOfAnyTemplate(t *testing.T) {
	g := generator(75)
	count := 0
	for range 20000 {
		captures := g.captures(5, 3)
		ids := append([]impl.Syntax(nil), fewNames[:2+g.below(3)]...)
		for _, c := range captures {
			ids = append(ids, c.Name)
		}
		template := g.template(ids, 3)
		if g.below(2) == 0 {
			template = g.templateOf(captures)
		}
		want, ok := describedResult(template, captures)
		got, gotOk := impl.Instantiate(template, captures)
		if ok != gotOk || !sameSyntax(got, want) {
			t.Fatalf("Instantiate(%s, %s) = %s, %v, want %s, %v", showForm(template), showCaptures(captures), showForm(got), gotOk, showForm(want), ok)
		}
		if ok && len(captures) > 0 && len(template.Items) > 1 {
			count++
		}
	}
	if count < 1500 {
		t.Errorf("only %d of the templates are instantiated", count)
	}
}
