package tests

import (
	"fmt"
	"strings"
	"testing"

	"loop.example/g03220/impl"
)

// mustReadVariables reads names with depths as showVariables writes them.
func mustReadVariables(t *testing.T, source string) []impl.Capture {
	t.Helper()
	var result []impl.Capture
	for _, word := range strings.Fields(source) {
		at := strings.LastIndex(word, ":")
		result = append(result, impl.Capture{Name: mustReadForm(t, word[:at]), Depth: mustParseOne(t, word[at+1:]).Number})
	}
	return result
}

var fittingTemplates = []struct{ variables, template string }{
	{"", "x"}, {"", "()"}, {"", "5"}, {"", "\"...\""}, {"", "_"}, {"", "(x (y 1) #f)"}, {"x:0", "x"}, {"x:0", "(x x (x y))"}, {"x:1", "y"}, {"x:1 y:2", "(1 2)"}, {"x:1", "x{1}"}, {"x{1}:1", "(x x{2} x{1,2})"},
	{"x:1", "(x ...)"}, {"x:1", "(x ...{4})"}, {"x:1", "(1 x ... 2)"}, {"x:1", "(x ... x ...)"}, {"x:1 y:1", "(x ... y ... x ...)"}, {"x:1", "((x) ...)"}, {"x:1", "((1 (x)) ... (x ...))"}, {"x:1 y:0", "((x y) ... y)"}, {"x{1}:1 y:0", "((x{1} x) ...)"},
	{"x:2", "((x ...) ...)"}, {"x:2 y:1", "((y x ...) ...)"}, {"x:2 y:1", "(((y x) ...) ...)"}, {"x:2 y:0", "(((y x) ... y) ...)"}, {"x:1 y:1", "((x y) ...)"}, {"x:1 y:1", "((x (y (y x))) ... y ...)"},
	{"x:3", "(((x ...) ...) ...)"}, {"x:3 y:1 z:2", "((y (z x ...) ...) ...)"}, {"x:4", "((((x ...) ...) ...) ...)"}, {"x:1 y:2 z:3", "((((x y z) ...) ...) ...)"}, {"x:2 y:1", "(((x y) ...) ...)"},
	{"...:0", "5"}, {"...:1 x:0", "(x y)"}, {"...:0 x:1", "(x ...)"}, {"...:5 x:1", "(x ...)"}, {"_:0", "_"}, {"_:1", "(_ ...)"}, {"x:999999999", "y"},
	{"x:1 x:0", "(x ...)"}, {"x:0 x:1", "x"}, {"x:0 x:1", "(x (x))"}, {"x:2 x:1", "((x ...) ...)"}, {"y:1 x:0 x:3 y:4", "((x y) ...)"},
}

// unfittingTemplates do not fit, most of them for one reason.
var unfittingTemplates = []struct{ variables, template string }{
	{"", "..."}, {"x:1", "...{1}"}, {"", "(...)"}, {"x:1", "(... x)"}, {"x:1", "(... x ...)"}, {"x:1", "(x (...))"}, {"x:1", "((... 1) x ...)"}, {"x:1", "((... x) ...)"}, {"...:0", "..."}, {"...:0", "(...)"}, {"...:0", "(... 1)"}, {"...:0 x:1", "(x ... ...)"}, {"...:1", "(... ...)"},
	{"x:1", "(x ... ...)"}, {"x:2", "(x ... ...)"}, {"x:2", "(x ...{1} ...{2})"}, {"x:2", "((x ...) ... ...)"}, {"x:1", "(x ... y ... ...)"}, {"x:1", "(1 (x ... ...))"}, {"x:1", "(x ... ... x)"},
	{"x:1", "x"}, {"x:1", "(x)"}, {"x:1", "(x x ...)"}, {"x:1", "(x ... x)"}, {"x:1 y:1", "(x ... y)"}, {"x:2", "(x ...)"}, {"x:2 y:1", "((x y) ...)"}, {"x:2 y:1", "((y ... x) ...)"}, {"x:3", "((x ...) ...)"}, {"x:4", "(((x ...) ...) ...)"}, {"x:2", "((x x) ... (x ...) ...)"}, {"x:1", "((1 ... x) 2)"}, {"_:1", "_"}, {"x:999999999", "(x ...)"},
	{"", "(x ...)"}, {"", "(1 ...)"}, {"", "(() ...)"}, {"x:0", "(x ...)"}, {"x:0", "((x x) ...)"}, {"x:1", "(y ...)"}, {"x:1", "(x{1} ...)"}, {"x{1}:1", "(x ...)"}, {"x:1", "(x ... 1 ...)"}, {"x:1", "((x ...) ...)"}, {"x:1", "(((x) ...) ...)"}, {"x:1 y:0", "((x y ...) ...)"}, {"x:1", "((x 1 ...) ...)"}, {"x:1", "(1 ... x ...)"},
	{"x:1 y:1", "((x y ...) ...)"}, {"x:1 y:1", "((x (y) ...) ...)"}, {"x:2 y:1", "(((x ...) y ...) ...)"}, {"x:2", "(((x ...) ...) ...)"}, {"x:2 y:2", "((x ... (y ...) ...) ...)"}, {"x:1 y:3", "(((x ...) y ...) ...)"}, {"_:0", "(_ ...)"},
	{"x:0 x:1", "(x ...)"}, {"x:1 x:0", "x"}, {"x:1 x:2", "((x ...) ...)"},
}

func TestTemplateFits(t *testing.T) {
	for _, c := range fittingTemplates {
		if !impl.TemplateFits(mustReadVariables(t, c.variables), mustReadForm(t, c.template)) {
			t.Errorf("TemplateFits(%s, %s) = false", c.variables, c.template)
		}
	}
	for _, c := range unfittingTemplates {
		if impl.TemplateFits(mustReadVariables(t, c.variables), mustReadForm(t, c.template)) {
			t.Errorf("TemplateFits(%s, %s) = true", c.variables, c.template)
		}
	}
}

func TestTemplateFitsOnlyWithValidVariables(t *testing.T) {
	x := impl.Capture{Name: identifier("x"), Depth: 1}
	template := mustReadForm(t, "(x ... 1)")
	for _, depth := range []int{-1, -2, leastInt, leastInt + 1} {
		bad := impl.Capture{Name: identifier("y"), Depth: depth}
		for _, variables := range [][]impl.Capture{{bad}, {bad, x}, {x, bad}, {x, {Name: identifier("x"), Depth: depth}}} {
			if impl.TemplateFits(variables, template) || impl.TemplateFits(variables, identifier("z")) {
				t.Errorf("a Depth of %d is accepted", depth)
			}
		}
	}
	for _, s := range append(noIdentifiers(), badForms()...) {
		bad := impl.Capture{Name: s}
		for _, variables := range [][]impl.Capture{{bad}, {bad, x}, {x, bad}} {
			if impl.TemplateFits(variables, template) || impl.TemplateFits(variables, form()) {
				t.Errorf("a variable with the name %.200s is accepted", showForm(s))
			}
		}
	}
	for _, depth := range []int{0, 1, 3, 4, 41, greatestInt} {
		other := impl.Capture{Name: identifier("y", 3), Depth: depth, Form: impl.Syntax{Kind: 9}, Each: []impl.Capture{{Depth: -1}}}
		if !impl.TemplateFits([]impl.Capture{other, x}, template) || impl.TemplateFits([]impl.Capture{other}, form(identifier("y", 3))) != (depth == 0) {
			t.Errorf("with a Depth of %d, the result is another one", depth)
		}
	}
}

// Form and Each of the variables do not matter.
func TestTemplateFitsWithAnyFields(t *testing.T) {
	for _, s := range []impl.Syntax{form(), identifier("x"), {Kind: 9, Items: leaves(3)}, nestedForms(deepNesting)} {
		variables := []impl.Capture{{Name: identifier("x"), Depth: 1, Form: s, Each: []impl.Capture{{Name: s, Depth: -7}}}, {Name: identifier("y"), Form: s, Each: make([]impl.Capture, 3)}}
		if !impl.TemplateFits(variables, mustReadForm(t, "((x y) ...)")) || impl.TemplateFits(variables, mustReadForm(t, "(x y ...)")) {
			t.Errorf("a Form of %.200s changes the result", showForm(s))
		}
	}
}

func TestTemplateFitsOnlyValidTemplates(t *testing.T) {
	x := []impl.Capture{{Name: identifier("x"), Depth: 0}, {Name: identifier("a", 1), Depth: 0}}
	for _, s := range goodForms() {
		if want := templateIsGood(x, s); impl.TemplateFits(x, s) != want || impl.TemplateFits(nil, s) == hasDots(s) {
			t.Errorf("TemplateFits of %.200s is not %v", showForm(s), want)
		}
	}
	for _, s := range badForms() {
		if impl.TemplateFits(x, s) || impl.TemplateFits(nil, s) || impl.TemplateFits(x, form(identifier("x"), s)) {
			t.Errorf("TemplateFits of %.200s = true", showForm(s))
		}
	}
}

// eachDepth calls f with each list of this many depths up to most.
func eachDepth(count, most int, f func(depths []int)) {
	depths := make([]int, count)
	for n := range pow(most+1, count) {
		for i := range depths {
			depths[i] = n % (most + 1)
			n /= most + 1
		}
		f(depths)
	}
}

func pow(base, exponent int) int {
	result := 1
	for range exponent {
		result *= base
	}
	return result
}

// Each template of few tokens is compared with the description, for variables
// of each depth.
func TestTemplateFitsOfEachSmallTemplate(t *testing.T) {
	count := 0
	eachString("xy.()", 6, func(s string) {
		if strings.Contains(s, "...") || strings.Count(s, "(") < strings.Count(s, ")") || strings.HasSuffix(s, "(") {
			return
		}
		open := 0
		for _, c := range s {
			if c == '(' {
				open++
			} else if c == ')' {
				open--
			}
			if open < 0 {
				return
			}
		}
		source := "(" + strings.NewReplacer("x", " x ", "y", " y ", ".", " ... ").Replace(s) + strings.Repeat(")", open+1)
		template := mustReadForm(t, source)
		eachDepth(2, 2, func(depths []int) {
			variables := []impl.Capture{{Name: identifier("x"), Depth: depths[0]}, {Name: identifier("y"), Depth: depths[1]}}
			got := impl.TemplateFits(variables, template)
			if got != templateIsGood(variables, template) {
				t.Fatalf("TemplateFits(x:%d y:%d, %s) = %v", depths[0], depths[1], source, got)
			}
			if got && strings.Contains(s, ".") {
				count++
			}
		})
	})
	if count < 100 {
		t.Errorf("only %d of the templates with an ellipsis fit", count)
	}
}

func TestTemplateFitsOfAnyTemplate(t *testing.T) {
	g := generator(63)
	count := 0
	for range 12000 {
		var variables []impl.Capture
		for range g.below(6) {
			variables = append(variables, impl.Capture{Name: g.name(), Depth: g.below(4)})
		}
		template := g.template(fewNames[:3+g.below(len(fewNames)-2)], 4)
		if g.below(30) == 0 {
			template = g.strangeSyntax(3)
		}
		if g.below(30) == 0 {
			variables = append(variables, impl.Capture{Name: g.strangeSyntax(1), Depth: g.below(3) - 1})
		}
		got := impl.TemplateFits(variables, template)
		if got != templateIsGood(variables, template) {
			t.Fatalf("TemplateFits(%s, %s) = %v", showCaptures(variables), showForm(template), got)
		}
		if got && len(template.Items) > 0 {
			count++
		}
	}
	if count < 200 {
		t.Errorf("only %d of the templates fit", count)
	}
}

func TestLargeTemplates(t *testing.T) {
	names := manyNames(999)
	var variables []impl.Capture
	var items []impl.Syntax
	for _, name := range names {
		variables = append(variables, impl.Capture{Name: name, Depth: 1})
		items = append(items, name, identifier("..."))
	}
	if !impl.TemplateFits(variables, form(items...)) || !impl.TemplateFits(variables, form(append(items, identifier("x"))...)) {
		t.Error("a template of 2000 nodes does not fit")
	}
	if impl.TemplateFits(variables, form(append(items, identifier("x"), identifier("y"))...)) || impl.TemplateFits(variables, form(append(items, names[998])...)) {
		t.Error("a template of 2001 nodes, or with a variable too few times repeated, fits")
	}
	variables[998].Depth = 2
	if impl.TemplateFits(variables, form(items...)) {
		t.Error("the last one of many variables is not looked at")
	}
	var same []impl.Capture
	for n := range 50000 {
		same = append(same, impl.Capture{Name: identifier("v"+fmt.Sprint(n), 3), Depth: 1})
	}
	if !impl.TemplateFits(same, mustReadForm(t, "(v49999{3} ... v49999)")) || impl.TemplateFits(same, mustReadForm(t, "(v49999 ...)")) {
		t.Error("one of 50000 variables is not found")
	}
}

// The deepest template has as many repeated items around its variable as fit.
func TestDeepTemplates(t *testing.T) {
	s := identifier("x")
	for range 39 {
		s = form(s, identifier("..."))
	}
	for _, c := range []struct {
		depth int
		want  bool
	}{{39, true}, {38, false}, {40, false}, {0, false}, {greatestInt, false}} {
		if got := impl.TemplateFits([]impl.Capture{{Name: identifier("x"), Depth: c.depth}}, s); got != c.want {
			t.Errorf("TemplateFits of 39 repeated items and a Depth of %d = %v", c.depth, got)
		}
	}
	if impl.TemplateFits([]impl.Capture{{Name: identifier("x"), Depth: 40}}, form(s, identifier("..."))) {
		t.Error("a template of depth 41 fits")
	}
}
