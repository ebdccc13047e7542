package tests

import (
	"testing"

	"loop.example/g03220/impl"
)

func TestAddScope(t *testing.T) {
	cases := []struct {
		source string
		n      int
		want   string
	}{
		{"x", 1, "x{1}"}, {"x{1}", 1, "x{1}"}, {"x{2,5}", 1, "x{1,2,5}"}, {"x{2,5}", 4, "x{2,4,5}"}, {"x{2,5}", impl.MaxScope, "x{2,5,99999}"}, {"x{2,5}", 5, "x{2,5}"},
		{"()", 1, "()"}, {"5", 1, "5"}, {"\"x\"", 1, "\"x\""}, {"#t", 3, "#t"}, {"(x (y{4} 5 (x{1})) \"x\" #f ())", 3, "(x{3} (y{3,4} 5 (x{1,3})) \"x\" #f ())"},
		{"(x y{2})", 0, "(x y{2})"}, {"(x y{2})", -1, "(x y{2})"}, {"(x y{2})", impl.MaxScope + 1, "(x y{2})"}, {"(x y{2})", leastInt, "(x y{2})"}, {"(x y{2})", greatestInt, "(x y{2})"},
	}
	for _, c := range cases {
		if got := impl.AddScope(mustReadForm(t, c.source), c.n); !sameSyntax(got, mustReadForm(t, c.want)) {
			t.Errorf("AddScope(%s, %d) = %s, want %s", c.source, c.n, impl.FormatSyntax(got), c.want)
		}
	}
}

func TestFlipScope(t *testing.T) {
	cases := []struct {
		source string
		n      int
		want   string
	}{
		{"x", 1, "x{1}"}, {"x{1}", 1, "x"}, {"x{2,5}", 1, "x{1,2,5}"}, {"x{2,5}", 4, "x{2,4,5}"}, {"x{2,5}", 5, "x{2}"}, {"x{2,5}", 2, "x{5}"}, {"x{2,4,5}", 4, "x{2,5}"}, {"x{99999}", impl.MaxScope, "x"},
		{"()", 1, "()"}, {"5", 1, "5"}, {"\"x\"", 1, "\"x\""}, {"#t", 3, "#t"}, {"(x (y{3,4} 5 (x{3})) \"x\" #f ())", 3, "(x{3} (y{4} 5 (x)) \"x\" #f ())"},
		{"(x y{2})", 0, "(x y{2})"}, {"(x y{2})", -2, "(x y{2})"}, {"(x y{2})", impl.MaxScope + 1, "(x y{2})"}, {"(x y{2})", leastInt, "(x y{2})"}, {"(x y{2})", greatestInt, "(x y{2})"},
	}
	for _, c := range cases {
		if got := impl.FlipScope(mustReadForm(t, c.source), c.n); !sameSyntax(got, mustReadForm(t, c.want)) {
			t.Errorf("FlipScope(%s, %d) = %s, want %s", c.source, c.n, impl.FormatSyntax(got), c.want)
		}
	}
}

func TestStripUses(t *testing.T) {
	cases := map[string]string{
		"x": "x", "x{1}": "x{1}", "x{3}": "x", "x{1,2,3,4,5,6,99999}": "x{1,2,4,5}", "x{3,6,9}": "x", "()": "()", "5": "5", "\"x\"": "\"x\"", "#f": "#f",
		"(x{3} (y{1,3} 5 (x{2,4} z)) \"x\")": "(x (y{1} 5 (x{2,4} z)) \"x\")",
	}
	for source, want := range cases {
		if got := impl.StripUses(mustReadForm(t, source)); !sameSyntax(got, mustReadForm(t, want)) {
			t.Errorf("StripUses(%s) = %s, want %s", source, impl.FormatSyntax(got), want)
		}
	}
}

// rescoped is s with the scopes of each symbol as bits say, by the model of
// sets of TestSetsBehaveAsSets.
func rescoped(s impl.Syntax, change func(bits int) int) impl.Syntax {
	result := plain(impl.Datum{Kind: s.Kind, Number: s.Number, Text: s.Text})
	if s.Kind == impl.DatumSymbol {
		bits := 0
		for i, n := range universe {
			for _, scope := range s.Scopes {
				if scope == n {
					bits |= 1 << i
				}
			}
		}
		result.Scopes = setOf(change(bits))
	}
	for _, item := range s.Items {
		result.Items = append(result.Items, rescoped(item, change))
	}
	return result
}

func TestChangesOfAnyForm(t *testing.T) {
	g := generator(27)
	for range 2000 {
		s := rescoped(g.syntax(3), func(int) int { return g.below(1 << len(universe)) })
		for i, n := range universe {
			if got := impl.AddScope(s, n); !sameSyntax(got, rescoped(s, func(bits int) int { return bits | 1<<i })) {
				t.Fatalf("AddScope(%s, %d) = %s", impl.FormatSyntax(s), n, impl.FormatSyntax(got))
			}
			if got := impl.FlipScope(s, n); !sameSyntax(got, rescoped(s, func(bits int) int { return bits ^ 1<<i })) {
				t.Fatalf("FlipScope(%s, %d) = %s", impl.FormatSyntax(s), n, impl.FormatSyntax(got))
			}
		}
		if got := impl.StripUses(s); !sameSyntax(got, rescoped(s, func(bits int) int { return bits &^ usesInUniverse })) {
			t.Fatalf("StripUses(%s) = %s", impl.FormatSyntax(s), impl.FormatSyntax(got))
		}
		for _, n := range noScopes {
			if !sameSyntax(impl.AddScope(s, n), s) || !sameSyntax(impl.FlipScope(s, n), s) {
				t.Fatalf("%d, which is no scope, changes %s", n, impl.FormatSyntax(s))
			}
		}
	}
}

func TestChangesOfTheLargestForms(t *testing.T) {
	many := make([]impl.Syntax, 1999)
	for i := range many {
		many[i] = identifier("a", 3, 7)
	}
	for _, s := range []impl.Syntax{form(many...), deepIdentifier(40, identifier("b", 1, 3))} {
		added, flipped, stripped := impl.AddScope(s, 5), impl.FlipScope(s, 3), impl.StripUses(s)
		if !impl.IsSyntax(added) || !impl.IsSyntax(flipped) || !sameSyntax(flipped, stripped) || sameSyntax(added, s) || sameSyntax(flipped, s) {
			t.Error("one of the largest forms is not changed as it should be")
		}
		if !sameSyntax(impl.FlipScope(added, 5), s) || !sameSyntax(impl.AddScope(stripped, 3), s) {
			t.Error("a change of one of the largest forms cannot be undone")
		}
	}
}

func TestInvalidFormsAreUnchanged(t *testing.T) {
	for _, bad := range badForms() {
		for _, s := range []impl.Syntax{bad, form(bad, identifier("a", 3)), form(identifier("a", 1, 3), bad)} {
			for _, n := range []int{1, 3, 4, 0, -1, impl.MaxScope + 1} {
				if !sameSyntax(impl.AddScope(s, n), s) || !sameSyntax(impl.FlipScope(s, n), s) {
					t.Errorf("%d changes %.200s, which is not valid", n, showForm(s))
				}
			}
			if !sameSyntax(impl.StripUses(s), s) {
				t.Errorf("StripUses changes %.200s, which is not valid", showForm(s))
			}
		}
	}
}
