package tests

import (
	"strings"
	"testing"

	"loop.example/g03220/impl"
)

func TestIsIdentifier(t *testing.T) {
	for _, s := range goodForms() {
		if got := impl.IsIdentifier(s); got != (s.Kind == impl.DatumSymbol) {
			t.Errorf("IsIdentifier(%.200s) = %v", showForm(s), got)
		}
	}
	for _, s := range badForms() {
		if impl.IsIdentifier(s) {
			t.Errorf("IsIdentifier(%.200s) = true", showForm(s))
		}
	}
	for _, s := range []impl.Syntax{form(identifier("a")), {Kind: 6, Text: "a"}, {Kind: impl.DatumString, Text: "a"}, {Text: "a"}} {
		if impl.IsIdentifier(s) {
			t.Errorf("IsIdentifier(%s) = true", showForm(s))
		}
	}
}

func TestSameIdentifier(t *testing.T) {
	different := []impl.Syntax{
		identifier("a"), identifier("b"), identifier("aa"), identifier("a", 1), identifier("a", 2), identifier("a", 1, 2), identifier("a", 1, 2, 3), identifier("a", 1, 3), identifier("b", 1), identifier("a", impl.MaxScope),
		identifier("...", 1), identifier("_"), identifier("a", everyScope()...), identifier("a", everyScope()[1:]...),
	}
	copies := formsWithSpare(different)
	for i, a := range different {
		for j, b := range copies {
			if got := impl.SameIdentifier(a, b); got != (i == j) {
				t.Errorf("SameIdentifier(%.200s, %.200s) = %v", showForm(a), showForm(b), got)
			}
		}
	}
	others := append(badForms(), form(), form(identifier("a")), plain(number(1)), plain(text("a")), plain(boolean(1)))
	for _, s := range others {
		if impl.SameIdentifier(s, s) || impl.SameIdentifier(s, identifier("a")) || impl.SameIdentifier(identifier("a"), s) {
			t.Errorf("%.200s, which is no identifier, is the same identifier", showForm(s))
		}
	}
	if !impl.SameIdentifier(identifier("a"), impl.Syntax{Kind: impl.DatumSymbol, Text: "a", Scopes: []int{}, Items: []impl.Syntax{}}) {
		t.Error("SameIdentifier tells a nil slice from an empty one")
	}
}

func TestIdentifiersIn(t *testing.T) {
	cases := map[string]string{
		"()": "()", "5": "()", "\"x\"": "()", "#t": "()", "(() (5 (\"x\")))": "()", "x": "(x)", "x{1,2}": "(x{1,2})",
		"(b a b a c)": "(b a c)", "((c (b)) a (d) b c)": "(c b a d)", "(x (x{1} x) (x{1,2} x{1}) x{2} x{1,2})": "(x x{1} x{1,2} x{2})",
		"(x{2} x{1} x x{2} y{1} x{1} \"x\" y)": "(x{2} x{1} x y{1} y)", "(a{3} a{3,6} a{6} a{3,6})": "(a{3} a{3,6} a{6})",
	}
	for source, want := range cases {
		if got := impl.IdentifiersIn(mustReadForm(t, source)); !sameForms(got, mustReadForm(t, want).Items) {
			t.Errorf("IdentifiersIn(%s) = %s, want %s", source, impl.FormatSyntax(form(got...)), want)
		}
	}
	for _, s := range badForms() {
		for _, bad := range []impl.Syntax{s, form(identifier("a"), s), form(s, identifier("a"))} {
			if got := impl.IdentifiersIn(bad); len(got) != 0 {
				t.Errorf("IdentifiersIn(%.200s) has %d elements, want nil", showForm(bad), len(got))
			}
		}
	}
}

func TestIdentifiersInLargeForms(t *testing.T) {
	var many []impl.Syntax
	for n := range 1999 {
		many = append(many, identifier("a", n+1, 50000))
	}
	if got := impl.IdentifiersIn(form(many...)); !sameForms(got, many) {
		t.Errorf("IdentifiersIn finds %d identifiers of %d", len(got), len(many))
	}
	for i := range many {
		many[i] = identifier("a", i%7+1)
	}
	if got := impl.IdentifiersIn(form(many...)); !sameForms(got, many[:7]) {
		t.Errorf("IdentifiersIn finds %d identifiers of 7", len(got))
	}
}

func TestIdentifiersInAnyForm(t *testing.T) {
	g := generator(23)
	for range 3000 {
		s := g.syntax(3)
		var want []impl.Syntax
		seen := map[string]bool{}
		var visit func(s impl.Syntax)
		visit = func(s impl.Syntax) {
			if key := showForm(s); s.Kind == impl.DatumSymbol && !seen[key] {
				seen[key] = true
				want = append(want, s)
			}
			for _, item := range s.Items {
				visit(item)
			}
		}
		visit(s)
		if got := impl.IdentifiersIn(s); !sameForms(got, want) {
			t.Fatalf("IdentifiersIn(%s) = %s", impl.FormatSyntax(s), impl.FormatSyntax(form(got...)))
		}
	}
}

func TestFormatSyntax(t *testing.T) {
	cases := []struct {
		s    impl.Syntax
		want string
	}{
		{form(identifier("x", 1, 4), plain(number(5))), "(x{1,4} 5)"}, {impl.Syntax{}, "()"}, {form(form(), form(form())), "(() (()))"},
		{identifier("x"), "x"}, {identifier("x", 7), "x{7}"}, {identifier("...", 1, 2, impl.MaxScope), "...{1,2,99999}"}, {impl.Syntax{Kind: impl.DatumSymbol, Text: "x", Scopes: []int{}}, "x"},
		{plain(number(-12)), "-12"}, {plain(boolean(1)), "#t"}, {plain(boolean(0)), "#f"}, {plain(text("a b")), "\"a b\""}, {plain(text("")), "\"\""},
		{form(identifier("quote", 3), identifier("x")), "(quote{3} x)"}, {form(identifier("a"), form(identifier("b", 2), plain(text("c{1}"))), identifier("d", 10, 20)), "(a (b{2} \"c{1}\") d{10,20})"},
		{deepIdentifier(3, identifier("a", 2)), "(b{1,3} (b{1,3} a{2}))"}, {nestedForms(40), strings.Repeat("(", 40) + strings.Repeat(")", 40)},
	}
	for _, c := range cases {
		if got := impl.FormatSyntax(c.s); got != c.want {
			t.Errorf("FormatSyntax(%.200s) = %s, want %s", showForm(c.s), got, c.want)
		}
	}
	for _, s := range badForms() {
		if got := impl.FormatSyntax(s); got != "" {
			t.Errorf("FormatSyntax(%.200s) = %.100q, want the empty string", showForm(s), got)
		}
	}
	if got := impl.FormatSyntax(form(leaves(1999)...)); len(strings.Fields(got)) != 1999 || !strings.HasPrefix(got, "(0 1 2 ") || !strings.HasSuffix(got, " 1997 1998)") {
		t.Errorf("FormatSyntax of 2000 nodes = %.100s", got)
	}
}

func TestFormattedSyntaxIsReadBack(t *testing.T) {
	g := generator(25)
	for range 3000 {
		s := withoutBlanks(g.syntax(3))
		if got := mustReadForm(t, impl.FormatSyntax(s)); !sameSyntax(got, s) {
			t.Fatalf("%s is the text of another syntax object", impl.FormatSyntax(s))
		}
	}
}

// withoutBlanks makes strings readable for mustReadForm.
func withoutBlanks(s impl.Syntax) impl.Syntax {
	if s.Kind == impl.DatumString {
		s.Text = strings.NewReplacer(" ", "", "(", "", ")", "").Replace(s.Text)
	}
	for i, item := range s.Items {
		s.Items[i] = withoutBlanks(item)
	}
	return s
}
