package tests

import (
	"strings"
	"testing"

	"loop.example/g03220/impl"
)

// goodForms are valid syntax objects, some of them as large as they may be.
func goodForms() []impl.Syntax {
	return []impl.Syntax{
		{}, form(), {Items: []impl.Syntax{}, Scopes: []int{}}, identifier("a"), identifier("a", 1), identifier("a", 1, 2, 3), identifier("...", impl.MaxScope),
		identifier("a", everyScope()...), {Kind: impl.DatumSymbol, Text: "a", Items: []impl.Syntax{}, Scopes: []int{}}, identifier(strings.Repeat("a", 16), 3),
		plain(number(0)), plain(number(impl.MaxNumber)), plain(number(-impl.MaxNumber)), plain(boolean(0)), plain(boolean(1)), plain(text("")), plain(text(strings.Repeat("x", 20))),
		{Kind: impl.DatumNumber, Number: 5, Scopes: []int{}}, {Kind: impl.DatumString, Text: "a", Items: []impl.Syntax{}},
		form(identifier("a", 1), form(plain(number(1)), identifier("a", 1, 4), plain(text("a"))), plain(boolean(1)), form()),
		form(leaves(1999)...), nestedForms(40), form(nestedForms(39), form(leaves(1959)...)), deepIdentifier(40, identifier("a", 2)),
	}
}

// badForms are syntax objects that are not valid, each for one reason.
func badForms() []impl.Syntax {
	bad := []impl.Syntax{
		{Number: 1}, {Number: -1}, {Text: "a"}, {Text: "a", Items: leaves(1)}, {Scopes: []int{1}}, {Scopes: []int{1, 2}, Items: leaves(1)}, {Scopes: []int{0}}, {Scopes: []int{-1}},
		identifier(""), identifier("1"), identifier("-1"), identifier("A", 1), identifier(strings.Repeat("a", 17)), identifier("a\xff"),
		{Kind: impl.DatumSymbol, Text: "a", Number: 1}, {Kind: impl.DatumSymbol, Text: "a", Items: leaves(1)}, {Kind: impl.DatumSymbol, Text: "a", Scopes: []int{1}, Items: []impl.Syntax{identifier("b")}},
		plain(number(impl.MaxNumber + 1)), plain(number(-impl.MaxNumber - 1)), plain(number(leastInt)), plain(number(greatestInt)),
		{Kind: impl.DatumNumber, Text: "1"}, {Kind: impl.DatumNumber, Items: leaves(1)}, {Kind: impl.DatumNumber, Scopes: []int{1}}, {Kind: impl.DatumNumber, Scopes: []int{0}},
		plain(boolean(2)), plain(boolean(-1)), {Kind: impl.DatumBoolean, Text: "#t"}, {Kind: impl.DatumBoolean, Items: leaves(1)}, {Kind: impl.DatumBoolean, Number: 1, Scopes: []int{1}},
		plain(text("\"")), plain(text("\x1f")), plain(text("\x7f")), plain(text("\x80")), plain(text(strings.Repeat("x", 21))),
		{Kind: impl.DatumString, Number: 1}, {Kind: impl.DatumString, Items: leaves(1)}, {Kind: impl.DatumString, Text: "a", Scopes: []int{3}},
		{Kind: 5}, {Kind: 9, Items: leaves(1)}, {Kind: -1}, {Kind: leastInt}, {Kind: greatestInt}, {Kind: 5, Text: "a", Scopes: []int{1}},
		form(leaves(2000)...), nestedForms(41), form(nestedForms(39), form(leaves(1960)...)), deepIdentifier(41, identifier("a", 2)),
		form(leaves(100000)...), nestedForms(deepNesting), deepIdentifier(deepNesting, identifier("a", 1, 3)),
	}
	for _, list := range noSets {
		bad = append(bad, identifier("a", list...))
	}
	return bad
}

// deepIdentifier returns lists around s, which together have this depth.
func deepIdentifier(depth int, s impl.Syntax) impl.Syntax {
	for range depth - 1 {
		s = form(identifier("b", 1, 3), s)
	}
	return s
}

func TestIsSyntax(t *testing.T) {
	for _, s := range goodForms() {
		if !impl.IsSyntax(s) {
			t.Errorf("IsSyntax(%.200s) = false", showForm(s))
		}
	}
	for _, s := range badForms() {
		if impl.IsSyntax(s) {
			t.Errorf("IsSyntax(%.200s) = true", showForm(s))
		}
		if impl.IsSyntax(form(plain(number(1)), form(s), plain(number(2)))) || impl.IsSyntax(form(s, identifier("a"))) || impl.IsSyntax(form(identifier("a"), s)) {
			t.Errorf("IsSyntax of a list with %.200s within = true", showForm(s))
		}
	}
}

func TestCountSyntax(t *testing.T) {
	cases := []struct {
		s    impl.Syntax
		want int
	}{
		{impl.Syntax{}, 1}, {impl.Syntax{Items: []impl.Syntax{}}, 1}, {identifier("a", 1, 2, 3), 1}, {impl.Syntax{Kind: leastInt, Number: 7, Text: "\xff", Scopes: []int{-1}}, 1},
		{form(form()), 2}, {form(identifier("a", 1), form(identifier("b")), plain(number(1))), 5}, {form(nestedForms(2), nestedForms(5), nestedForms(3)), 11},
		{impl.Syntax{Kind: impl.DatumSymbol, Items: []impl.Syntax{{Kind: 9, Items: leaves(3)}}}, 5},
		{form(leaves(1999)...), 2000}, {form(leaves(2000)...), 2001}, {form(leaves(100000)...), 100001}, {nestedForms(40), 40}, {nestedForms(41), 41}, {nestedForms(deepNesting), deepNesting},
	}
	for _, c := range cases {
		if got := impl.CountSyntax(c.s); got != c.want {
			t.Errorf("CountSyntax(%.200s) = %d, want %d", showForm(c.s), got, c.want)
		}
	}
}

func TestSyntaxOf(t *testing.T) {
	cases := map[string]impl.Syntax{
		"()": form(), "x": identifier("x"), "-5": plain(number(-5)), "#t": plain(boolean(1)), "\"x\"": plain(text("x")),
		"(x (y \"x\") #f 7 ())": form(identifier("x"), form(identifier("y"), plain(text("x"))), plain(boolean(0)), plain(number(7)), form()),
		"'x":                    form(identifier("quote"), identifier("x")),
	}
	for source, want := range cases {
		if got := impl.SyntaxOf(mustParseOne(t, source)); !sameSyntax(got, want) {
			t.Errorf("SyntaxOf(%s) = %s", source, showForm(got))
		}
	}
	for _, d := range []impl.Datum{list(atoms(599)...), nested(20), list(nested(19), list(atoms(579)...))} {
		got := impl.SyntaxOf(d)
		if !impl.IsSyntax(got) || impl.CountSyntax(got) != impl.CountNodes(d) || !sameDatum(impl.DatumOf(got), d) {
			t.Errorf("SyntaxOf(%.100s) is not this datum", show(d))
		}
	}
	invalid := []impl.Datum{
		list(atoms(600)...), nested(21), list(nested(19), list(atoms(580)...)), list(atoms(100000)...), nested(deepNesting), symbol("A"), symbol(""), number(leastInt), boolean(2),
		text("\n"), {Kind: 5}, {Kind: -1}, {Number: 1}, {Text: "a"}, {Kind: impl.DatumSymbol, Text: "x", Items: atoms(1)}, {Kind: impl.DatumNumber, Number: 1, Text: "1"}, list(symbol("x"), list(symbol("1"))),
	}
	for _, d := range invalid {
		if got := impl.SyntaxOf(d); !sameSyntax(got, impl.Syntax{}) {
			t.Errorf("SyntaxOf(%.100s) = %.200s, want the zero value", show(d), showForm(got))
		}
	}
}

// stripped is the datum of a syntax object, written apart from DatumOf.
func stripped(s impl.Syntax) impl.Datum {
	d := impl.Datum{Kind: s.Kind, Number: s.Number, Text: s.Text}
	for i := range s.Items {
		d.Items = append(d.Items, stripped(s.Items[i]))
	}
	return d
}

func TestDatumOf(t *testing.T) {
	cases := map[string]string{
		"()": "()", "x": "x", "x{1}": "x", "x{1,2,99999}": "x", "5": "5", "\"x\"": "\"x\"", "#f": "#f", "(x{1} (y{2,3} 5 x) \"x\" #t ())": "(x (y 5 x) \"x\" #t ())",
	}
	for source, want := range cases {
		if got := impl.DatumOf(mustReadForm(t, source)); !sameDatum(got, mustParseOne(t, want)) {
			t.Errorf("DatumOf(%s) = %s", source, show(got))
		}
	}
	for _, s := range goodForms() {
		if got := impl.DatumOf(s); !sameDatum(got, stripped(s)) {
			t.Errorf("DatumOf(%.200s) = %.100s", showForm(s), show(got))
		}
	}
	for _, n := range []int{599, 600, 601, 1999} {
		if got := impl.DatumOf(form(leaves(n)...)); !sameDatum(got, list(atoms(n)...)) || impl.IsDatum(got) != (n < impl.MaxNodes) {
			t.Errorf("DatumOf of a list of %d items has %d", n, len(got.Items))
		}
	}
	for _, s := range badForms() {
		if got := impl.DatumOf(s); !sameDatum(got, impl.Datum{}) {
			t.Errorf("DatumOf(%.200s) = %.100s, want the zero value", showForm(s), show(got))
		}
	}
}

func TestDataAreTheirSyntaxWithoutScopes(t *testing.T) {
	g := generator(21)
	for range 3000 {
		d := g.datum(3)
		s := impl.SyntaxOf(d)
		scoped := g.scoped(d)
		if !sameDatum(impl.DatumOf(s), d) || !sameDatum(impl.DatumOf(scoped), d) {
			t.Fatalf("%s is not the datum of its syntax object", impl.FormatDatum(d))
		}
		if impl.FormatSyntax(s) != impl.FormatDatum(d) {
			t.Fatalf("FormatSyntax(%s) = %s", impl.FormatDatum(d), impl.FormatSyntax(s))
		}
	}
}

func TestEqualSyntax(t *testing.T) {
	different := []impl.Syntax{
		{}, identifier("a"), identifier("b"), identifier("a", 1), identifier("a", 2), identifier("a", 1, 2), identifier("a", 2, 1), identifier("a", 1, 1), identifier("a", -1), identifier("a", 1, 2, 3), identifier("b", 1),
		plain(text("a")), plain(number(0)), plain(number(1)), plain(boolean(0)), plain(boolean(1)), {Text: "a"}, {Number: 1}, {Scopes: []int{1}}, {Scopes: []int{leastInt}}, {Kind: impl.DatumNumber, Scopes: []int{1}},
		{Kind: 9}, {Kind: -1}, {Kind: 9, Number: leastInt}, {Kind: 9, Text: "\xff"}, {Kind: impl.DatumNumber, Items: leaves(1)}, {Kind: impl.DatumSymbol, Text: "a", Items: leaves(1)},
		form(form()), form(form(), form()), form(identifier("a"), identifier("b")), form(identifier("b"), identifier("a")), form(identifier("a")), form(identifier("a", 1)), form(identifier("a", 1), identifier("b")),
		form(identifier("a"), identifier("b", 1)), form(form(identifier("a")), identifier("b")), form(form(identifier("a"), identifier("b"))), form(identifier("a"), identifier("b"), identifier("c")),
		{Scopes: []int{1}, Items: leaves(1)}, form(leaves(1)...), form(leaves(2100)...), form(leaves(2101)...), nestedForms(50), nestedForms(51), nestedForms(deepNesting), form(nestedForms(deepNesting)),
		deepIdentifier(deepNesting, identifier("a", 1)), deepIdentifier(deepNesting, identifier("a", 2)),
	}
	copies := formsWithSpare(different)
	for i, a := range different {
		for j, b := range copies {
			if got := impl.EqualSyntax(a, b); got != (i == j) {
				t.Errorf("EqualSyntax(%.200s, %.200s) = %v", showForm(a), showForm(b), got)
			}
		}
	}
	if !impl.EqualSyntax(impl.Syntax{Items: []impl.Syntax{}, Scopes: []int{}}, impl.Syntax{}) || !impl.EqualSyntax(form(identifier("a")), form(impl.Syntax{Kind: impl.DatumSymbol, Text: "a", Scopes: []int{}})) {
		t.Error("EqualSyntax tells a nil slice from an empty one")
	}
}
