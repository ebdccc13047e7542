package tests

import (
	"fmt"
	"strings"
	"testing"

	"loop.example/g03220/impl"
)

func TestLimitsOfRules(t *testing.T) {
	if impl.MaxClauses != 12 || impl.MaxLiterals != 8 || impl.MaxEllipsis != 3 {
		t.Error("a limit of chapter 5 is another one")
	}
}

func TestIsEllipsis(t *testing.T) {
	dots := []impl.Syntax{identifier("..."), identifier("...", 1), identifier("...", 2, 3, impl.MaxScope), identifier("...", everyScope()...), {Kind: impl.DatumSymbol, Text: "...", Scopes: []int{}, Items: []impl.Syntax{}}}
	for _, s := range dots {
		if !impl.IsEllipsis(s) {
			t.Errorf("IsEllipsis(%.200s) = false", showForm(s))
		}
	}
	others := []impl.Syntax{
		{}, form(), identifier("_"), identifier("_", 1), identifier("."), identifier(".."), identifier("...."), identifier("...a"), identifier("a...", 1), identifier("a"), identifier(""), identifier("... "), form(identifier("...")), form(identifier("a"), identifier("...")),
		plain(text("...")), {Text: "..."}, {Kind: impl.DatumNumber, Text: "..."}, {Kind: impl.DatumBoolean, Text: "..."}, {Kind: 5, Text: "..."}, {Kind: -1, Text: "..."}, {Kind: leastInt, Text: "..."}, {Kind: 257, Text: "..."},
		{Kind: impl.DatumSymbol, Text: "...", Number: 1}, {Kind: impl.DatumSymbol, Text: "...", Items: leaves(1)}, {Kind: impl.DatumSymbol, Text: "...", Items: []impl.Syntax{nestedForms(deepNesting)}},
	}
	for _, scopes := range noSets {
		others = append(others, identifier("...", scopes...))
	}
	for _, s := range append(others, append(badForms(), noIdentifiers()...)...) {
		if impl.IsEllipsis(s) {
			t.Errorf("IsEllipsis(%.200s) = true", showForm(s))
		}
	}
}

// goodPatterns has literals, a pattern, and the names of its variables with
// their depths.
var goodPatterns = []struct{ literals, pattern, want string }{
	{"", "x", "x:0"}, {"", "x{1,4}", "x{1,4}:0"}, {"", "()", ""}, {"", "_", ""}, {"", "_{2}", ""}, {"", "5", ""}, {"", "#t", ""}, {"", "\"...\"", ""}, {"", "(\"_\" \"...\" \"...\")", ""}, {"x", "x", ""}, {"x", "x{1}", "x{1}:0"}, {"x{1}", "x", "x:0"}, {"x{1}", "x{1}", ""},
	{"", "(x y)", "x:0 y:0"}, {"", "(y (x) 1 z)", "y:0 x:0 z:0"}, {"", "(x x{1} x{2} x{1,2})", "x:0 x{1}:0 x{2}:0 x{1,2}:0"}, {"", "(_ _ _{1})", ""}, {"", ".... ", "....:0"}, {"", "(.. .... __ _a)", "..:0 ....:0 __:0 _a:0"},
	{"", "(x ...)", "x:1"}, {"", "(x ...{3})", "x:1"}, {"", "(x ... y z)", "x:1 y:0 z:0"}, {"", "(x y ... z)", "x:0 y:1 z:0"}, {"", "(x y ...)", "x:0 y:1"}, {"", "(_ ...)", ""}, {"", "(1 ... 2)", ""}, {"", "(() ...)", ""}, {"", "((x y) ... z)", "x:1 y:1 z:0"},
	{"", "((x ...) (y ...))", "x:1 y:1"}, {"", "((x ...) ...)", "x:2"}, {"", "((x y ...) ... z)", "x:1 y:2 z:0"}, {"", "(((x ...) ...) ...)", "x:3"}, {"", "((y (x z ...) ...) ...)", "y:1 x:2 z:3"}, {"", "(((x ...{1}) ...{2}) ...{3})", "x:3"},
	{"", "((((_ ...) ...) ...) ...)", ""}, {"", "((((1 ...) ...) ...) ...)", ""}, {"", "((((() ...) ...) ...) ...)", ""}, {"", "((((x _ ...) ...) ...) ...)", "x:3"}, {"l", "((((x l ...) ...) ...) ...)", "x:3"}, {"", "((((x) y) z) ...)", "x:1 y:1 z:1"}, {"", "(((((x)))))", "x:0"},
	{"a b", "(a x b y)", "x:0 y:0"}, {"a a", "(a a b)", "b:0"}, {"a", "(a a a)", ""}, {"a", "(a ... a a)", ""}, {"a", "(a{1} a a{2})", "a{1}:0 a{2}:0"}, {"a{1} b", "(a b b{1})", "a:0 b{1}:0"}, {"if quote", "(if quote set! define)", "set!:0 define:0"}, {"a b c d e f g h", "(h i ...)", "i:1"},
	{"a", "x", "x:0"}, {"x y", "((x ...) y ...)", ""}, {"....", "(.... ..)", "..:0"},
}

func TestPatternVariables(t *testing.T) {
	for _, c := range goodPatterns {
		got, ok := impl.PatternVariables(mustReadForms(t, c.literals), mustReadForm(t, c.pattern))
		if !ok || showVariables(got) != c.want {
			t.Errorf("PatternVariables((%s), %s) = %s, %v, want %s", c.literals, c.pattern, showVariables(got), ok, c.want)
		}
		for _, v := range got {
			if !isZero(v.Form) || len(v.Each) != 0 {
				t.Errorf("PatternVariables((%s), %s) has captures with fields: %s", c.literals, c.pattern, showCaptures(got))
			}
		}
	}
}

var badPatterns = []struct{ literals, pattern string }{
	{"", "..."}, {"", "...{1,2}"}, {"", "(...)"}, {"", "(... x)"}, {"", "(... ...)"}, {"", "(x (...))"}, {"", "((... x) y)"}, {"", "(x (... ) ...)"}, {"", "(...{1} x)"},
	{"", "(x ... ...)"}, {"", "(x ... y ...)"}, {"", "(x ... y z ...)"}, {"", "(x ...{1} y ...{2})"}, {"", "(_ ... _ ...)"}, {"", "((x ... y ...) ...)"}, {"", "(1 (x ... ... y))"}, {"", "(1 ... 1 ...)"}, {"", "(x y z ... ...)"}, {"", "(x ... (...))"},
	{"", "(x x)"}, {"", "(x (y (x)))"}, {"", "(x x ...)"}, {"", "((x ...) x)"}, {"", "(x{1} x{1})"}, {"", "(x x{1} y x{1})"}, {"", "((x y) ... (z y))"}, {"l", "(l x l{1} l{1})"}, {"l{1}", "(l l)"},
	{"", "((((x ...) ...) ...) ...)"}, {"", "(1 ((((y x) ...) ...) ...) ...)"}, {"", "(((((x ...) ...) ...) ...) ...)"}, {"", "(y ((((x{1} ...) ...) ...) ...))"}, {"l", "((((l{1} ...) ...) ...) ...)"}, {"", "(((((x (y)) ...) ...) ...) ...)"},
	{"...", "x"}, {"...{1}", "x"}, {"a ...", "x"}, {"_", "x"}, {"a _{2}", "x"}, {"()", "x"}, {"(a)", "x"}, {"1", "x"}, {"a #t", "x"}, {"\"a\"", "x"}, {"a b c d e f g h i", "x"}, {"a a a a a a a a a", "()"},
}

func TestPatternVariablesRefuses(t *testing.T) {
	for _, c := range badPatterns {
		checkNoPattern(t, mustReadForms(t, c.literals), mustReadForm(t, c.pattern))
	}
	for _, s := range badForms() {
		checkNoPattern(t, nil, s)
		checkNoPattern(t, []impl.Syntax{identifier("a")}, form(identifier("x"), s))
		checkNoPattern(t, []impl.Syntax{s}, identifier("x"))
		checkNoPattern(t, []impl.Syntax{identifier("a"), s}, form())
	}
	for _, s := range noIdentifiers() {
		checkNoPattern(t, []impl.Syntax{s}, form())
		checkNoPattern(t, []impl.Syntax{s, identifier("a")}, identifier("a"))
	}
}

func checkNoPattern(t *testing.T, literals []impl.Syntax, pattern impl.Syntax) {
	t.Helper()
	if got, ok := impl.PatternVariables(literals, pattern); ok || got != nil && len(got) != 0 {
		t.Errorf("PatternVariables(%.200s, %.200s) = %.200s, %v", showForm(form(literals...)), showForm(pattern), showCaptures(got), ok)
	}
	if got, ok := impl.MatchPattern(nil, literals, pattern, pattern); ok || len(got) != 0 {
		t.Errorf("MatchPattern with %.200s and %.200s = %.200s, %v", showForm(form(literals...)), showForm(pattern), showCaptures(got), ok)
	}
}

func TestLiteralsUpToTheLimit(t *testing.T) {
	var literals, items []impl.Syntax
	for n := range 12 {
		x := identifier("l"+fmt.Sprint(n), n+1)
		items = append(items, x)
		got, ok := impl.PatternVariables(literals, form(items...))
		if ok != (n <= 8) || ok && showVariables(got) != impl.FormatSyntax(x)+":0" {
			t.Errorf("with %d literals: %s, %v", n, showVariables(got), ok)
		}
		literals = append(literals, x)
	}
	if _, ok := impl.PatternVariables(make([]impl.Syntax, 100000), form()); ok {
		t.Error("100000 literals are accepted")
	}
	if _, ok := impl.PatternVariables([]impl.Syntax{}, form()); !ok {
		t.Error("an empty list of literals is not accepted")
	}
}

// manyNames returns this number of different identifiers.
func manyNames(n int) []impl.Syntax {
	result := make([]impl.Syntax, n)
	for i := range result {
		result[i] = identifier("n"+fmt.Sprint(i), 1, 5)
	}
	return result
}

func TestLargePatterns(t *testing.T) {
	got, ok := impl.PatternVariables(nil, form(manyNames(1999)...))
	if !ok || len(got) != 1999 || got[1998].Name.Text != "n1998" {
		t.Errorf("a pattern of 2000 nodes has %d variables, %v", len(got), ok)
	}
	checkNoPattern(t, nil, form(manyNames(2000)...))
	checkNoPattern(t, nil, form(append(manyNames(1998), identifier("n5", 1, 5))...))
	same := make([]impl.Syntax, 1999)
	for i := range same {
		same[i] = identifier("x", i+1, 50000)
	}
	if got, ok := impl.PatternVariables(nil, form(same...)); !ok || len(got) != 1999 || !sameInts(got[7].Name.Scopes, []int{8, 50000}) {
		t.Errorf("a pattern with 1999 identifiers of one Text has %d variables, %v", len(got), ok)
	}
	if got, ok := impl.PatternVariables(nil, deepIdentifierWithout(40)); !ok || showVariables(got) != "a{2}:0" {
		t.Errorf("the deepest pattern has the variables %s, %v", showVariables(got), ok)
	}
	checkNoPattern(t, nil, deepIdentifierWithout(41))
	long := identifier("x", everyScope()...)
	if got, ok := impl.PatternVariables([]impl.Syntax{long}, form(identifier("x"), long, identifier("..."))); !ok || showVariables(got) != "x:0" {
		t.Errorf("a literal with all scopes: %s, %v", showVariables(got), ok)
	}
}

// deepIdentifierWithout returns a list of this depth, with one identifier.
func deepIdentifierWithout(depth int) impl.Syntax {
	s := identifier("a", 2)
	for range depth - 1 {
		s = form(s)
	}
	return s
}

func TestPatternVariablesOfAnyPattern(t *testing.T) {
	g := generator(61)
	count := 0
	for range 8000 {
		literals := g.literals()
		pattern := g.pattern(5)
		if g.below(20) == 0 {
			pattern = g.strangeSyntax(3)
		}
		want, ok := describedVariables(literals, pattern)
		got, gotOk := impl.PatternVariables(literals, pattern)
		if ok != gotOk || !sameCaptures(got, want) {
			t.Fatalf("PatternVariables(%s, %s) = %s, %v, want %s, %v", showForm(form(literals...)), impl.FormatSyntax(pattern), showVariables(got), gotOk, showVariables(want), ok)
		}
		if len(got) > 1 {
			count++
		}
	}
	if count < 800 {
		t.Errorf("only %d of the patterns have variables", count)
	}
}

// Each pattern of few tokens is compared with the description.
func TestPatternVariablesOfEachSmallPattern(t *testing.T) {
	eachString("x.(_", 5, func(s string) {
		source := strings.NewReplacer("x", " x ", ".", " ... ", "_", " y ").Replace(s) + strings.Repeat(")", strings.Count(s, "("))
		for _, pattern := range []impl.Syntax{mustReadForm(t, "("+source+")"), mustReadForm(t, "(("+source+") ...)")} {
			want, ok := describedVariables(nil, pattern)
			got, gotOk := impl.PatternVariables(nil, pattern)
			if ok != gotOk || !sameCaptures(got, want) {
				t.Fatalf("PatternVariables of %s = %s, %v, want %s, %v", impl.FormatSyntax(pattern), showVariables(got), gotOk, showVariables(want), ok)
			}
		}
	})
}
