package tests

import (
	"strings"
	"testing"

	"loop.example/g03220/impl"
)

func TestIsDatum(t *testing.T) {
	good := []impl.Datum{
		{}, list(), {Items: []impl.Datum{}}, symbol("a"), {Kind: impl.DatumSymbol, Text: "a", Items: []impl.Datum{}},
		symbol(strings.Repeat("a", 16)), number(0), number(impl.MaxNumber), number(-impl.MaxNumber),
		boolean(0), boolean(1), text(""), text(strings.Repeat("x", 20)), text(" !#~"),
		list(symbol("a"), list(number(1), text("a")), boolean(1), list()),
		list(atoms(599)...), nested(20), list(nested(19), list(atoms(579)...)),
	}
	for _, d := range good {
		if !impl.IsDatum(d) {
			t.Errorf("IsDatum(%.100s) = false", show(d))
		}
	}
	bad := []impl.Datum{
		{Number: 1}, {Number: -1}, {Text: "a"}, {Text: "a", Items: atoms(1)},
		symbol(""), symbol("1"), symbol("-1"), symbol("A"), symbol(strings.Repeat("a", 17)),
		{Kind: impl.DatumSymbol, Text: "a", Number: 1}, {Kind: impl.DatumSymbol, Text: "a", Items: atoms(1)},
		number(impl.MaxNumber + 1), number(-impl.MaxNumber - 1), number(leastInt), number(greatestInt),
		{Kind: impl.DatumNumber, Text: "1"}, {Kind: impl.DatumNumber, Items: atoms(1)},
		boolean(2), boolean(-1), boolean(leastInt), {Kind: impl.DatumBoolean, Text: "#t"}, {Kind: impl.DatumBoolean, Items: atoms(1)},
		text("\""), text("\x1f"), text("\x7f"), text("\x80"), text("\n"), text(strings.Repeat("x", 21)),
		{Kind: impl.DatumString, Number: 1}, {Kind: impl.DatumString, Items: atoms(1)},
		{Kind: 5}, {Kind: 9}, {Kind: -1}, {Kind: leastInt}, {Kind: greatestInt}, {Kind: 5, Items: atoms(1)},
		list(atoms(600)...), nested(21), list(nested(19), list(atoms(580)...)), list(atoms(1000000)...), nested(deepNesting),
	}
	for _, d := range bad {
		if impl.IsDatum(d) {
			t.Errorf("IsDatum(%.100s) = true", show(d))
		}
		if impl.IsDatum(list(number(1), list(d), number(2))) {
			t.Errorf("IsDatum of a list with %.100s within = true", show(d))
		}
	}
}

func show(d impl.Datum) string {
	result := "{" + impl.FormatNumber(d.Kind) + " " + impl.FormatNumber(d.Number) + " \"" + d.Text + "\""
	for i, item := range d.Items {
		if i == 5 {
			return result + " ..}"
		}
		result += " {" + impl.FormatNumber(item.Kind) + " ..}"
	}
	return result + "}"
}

func TestAreData(t *testing.T) {
	if !impl.AreData(nil) || !impl.AreData([]impl.Datum{}) {
		t.Error("AreData of no data is false")
	}
	var deep []impl.Datum
	for range 30 {
		deep = append(deep, nested(20))
	}
	good := [][]impl.Datum{atoms(1), atoms(600), deep, {list(atoms(299)...), list(atoms(299)...)}, {list(atoms(599)...)}}
	for i, data := range good {
		if !impl.AreData(data) {
			t.Errorf("AreData of the good list %d is false", i)
		}
		if impl.AreData(append([]impl.Datum{{Kind: 9}}, data...)) || impl.AreData(append(data[:len(data):len(data)], number(leastInt))) {
			t.Errorf("AreData of the good list %d with an invalid datum is true", i)
		}
	}
	bad := [][]impl.Datum{
		atoms(601), append(deep, list()), {list(atoms(299)...), list(atoms(300)...)}, {list(atoms(600)...)}, {list(atoms(599)...), list()},
		{nested(21)}, {list(), nested(21)}, {list(), nested(deepNesting)}, atoms(1000000), {list(list(boolean(2)))},
	}
	for i, data := range bad {
		if impl.AreData(data) {
			t.Errorf("AreData of the bad list %d is true", i)
		}
	}
}

func TestListDatum(t *testing.T) {
	lists := [][]impl.Datum{
		nil, {}, atoms(1), {symbol("a"), list(text("b"), list())}, atoms(1000), {nested(30)},
		{{Kind: 9, Number: -4, Text: "\xff", Items: []impl.Datum{{Kind: -1}, symbol("A")}}},
	}
	for i, items := range lists {
		if got := impl.ListDatum(items); !sameDatum(got, impl.Datum{Items: items}) {
			t.Errorf("ListDatum of the list %d = %.100s", i, show(got))
		}
	}
}

func TestCountNodesAndDepthOf(t *testing.T) {
	cases := []struct {
		d            impl.Datum
		nodes, depth int
	}{
		{impl.Datum{}, 1, 1}, {impl.Datum{Items: []impl.Datum{}}, 1, 1}, {symbol("a"), 1, 1}, {impl.Datum{Kind: leastInt, Number: 7}, 1, 1},
		{list(list()), 2, 2}, {list(symbol("a"), list(symbol("b")), number(1)), 5, 3},
		{list(nested(2), nested(5), nested(3)), 11, 6}, {list(nested(5), list()), 7, 6}, {list(list(), nested(5)), 7, 6},
		{impl.Datum{Kind: impl.DatumNumber, Items: []impl.Datum{{Kind: 9, Items: atoms(3)}}}, 5, 3},
		{list(atoms(599)...), 600, 2}, {list(atoms(600)...), 601, 2}, {list(atoms(100000)...), 100001, 2},
		{nested(20), 20, 20}, {nested(21), 21, 21}, {nested(deepNesting), deepNesting, deepNesting},
	}
	for _, c := range cases {
		if got := impl.CountNodes(c.d); got != c.nodes {
			t.Errorf("CountNodes(%.100s) = %d, want %d", show(c.d), got, c.nodes)
		}
		if got := impl.DepthOf(c.d); got != c.depth {
			t.Errorf("DepthOf(%.100s) = %d, want %d", show(c.d), got, c.depth)
		}
	}
}

func TestEqualData(t *testing.T) {
	different := []impl.Datum{
		{}, symbol("a"), symbol("b"), text("a"), number(0), number(1), boolean(0), boolean(1), {Text: "a"}, {Number: 1},
		{Kind: 9}, {Kind: -1}, {Kind: 9, Number: leastInt}, {Kind: 9, Text: "\xff"}, {Kind: impl.DatumNumber, Items: atoms(1)},
		list(list()), list(list(), list()), list(symbol("a"), symbol("b")), list(symbol("b"), symbol("a")), list(symbol("a")),
		list(list(symbol("a")), symbol("b")), list(list(symbol("a"), symbol("b"))), list(symbol("a"), symbol("b"), symbol("c")),
		list(atoms(700)...), list(atoms(701)...), nested(30), nested(31), nested(deepNesting), list(nested(deepNesting)),
	}
	for i, a := range different {
		for j, b := range different {
			if got := impl.EqualData(a, cloneWithSpare([]impl.Datum{b})[0]); got != (i == j) {
				t.Errorf("EqualData(%.100s, %.100s) = %v", show(a), show(b), got)
			}
		}
	}
	if !impl.EqualData(impl.Datum{Items: []impl.Datum{}}, impl.Datum{}) || !impl.EqualData(list(list()), list(impl.Datum{Items: []impl.Datum{}})) {
		t.Error("EqualData tells a nil slice from an empty one")
	}
}

func TestSwapSymbols(t *testing.T) {
	cases := []struct{ source, a, b, want string }{
		{"(x y z)", "x", "y", "(y x z)"}, {"(x y z)", "y", "x", "(y x z)"}, {"(x y z)", "x", "x", "(x y z)"}, {"(x y z)", "a", "b", "(x y z)"},
		{"(x (y (x \"x\")) 1 #t)", "x", "new", "(new (y (new \"x\")) 1 #t)"}, {"(new x)", "x", "new", "(x new)"},
		{"x", "x", "y", "y"}, {"y", "x", "y", "x"}, {"z", "x", "y", "z"}, {"()", "x", "y", "()"}, {"\"x\"", "x", "y", "\"x\""}, {"'x", "quote", "x", "(x quote)"},
		{"(x y)", "x", "1", "(x y)"}, {"(x y)", "", "y", "(x y)"}, {"(x y)", "x", "", "(x y)"}, {"(x y)", "X", "y", "(x y)"}, {"(x y)", "y", "-1", "(x y)"},
		{"(x y)", "x", "aaaaaaaaaaaaaaaaa", "(x y)"}, {"(x y)", "x", "aaaaaaaaaaaaaaaa", "(aaaaaaaaaaaaaaaa y)"}, {"(x y)", "x", "\xff", "(x y)"},
	}
	for _, c := range cases {
		got := impl.SwapSymbols(mustParseOne(t, c.source), c.a, c.b)
		if want := mustParseOne(t, c.want); !sameDatum(got, want) {
			t.Errorf("SwapSymbols(%s, %q, %q) = %s, want %s", c.source, c.a, c.b, impl.FormatDatum(got), c.want)
		}
	}
	invalid := []impl.Datum{
		list(symbol("x"), symbol("X")), {Kind: 9, Items: []impl.Datum{symbol("x")}}, {Kind: impl.DatumSymbol, Text: "x", Number: 1},
		list(symbol("x"), nested(20)), list(append(atoms(599), symbol("x"))...), list(symbol("x"), nested(deepNesting)),
	}
	for _, d := range invalid {
		if got := impl.SwapSymbols(d, "x", "y"); !sameDatum(got, d) {
			t.Errorf("SwapSymbols changes %.100s, which is not valid", show(d))
		}
	}
}

func TestSwapSymbolsIsItsOwnInverse(t *testing.T) {
	g := generator(5)
	for range 2000 {
		d := g.datum(3)
		swapped := impl.SwapSymbols(d, "a", "b-")
		if !impl.IsDatum(swapped) || !sameDatum(impl.SwapSymbols(swapped, "b-", "a"), d) {
			t.Fatalf("swapping twice changes %s", impl.FormatDatum(d))
		}
	}
}

func TestSymbolsOf(t *testing.T) {
	cases := map[string]string{
		"()": "", "x": "x", "1": "", "\"x\"": "", "#t": "", "(b a b a c)": "b a c", "((c (b)) a (d) b c)": "c b a d",
		"('x \"y\" 1 #f y)": "quote x y", "(a aa aaa aa a)": "a aa aaa",
	}
	for source, want := range cases {
		if got := strings.Join(impl.SymbolsOf(mustParseOne(t, source)), " "); got != want {
			t.Errorf("SymbolsOf(%s) = %s, want %s", source, got, want)
		}
	}
	invalid := []impl.Datum{
		symbol("A"), list(symbol("x"), symbol("")), {Kind: 9, Items: []impl.Datum{symbol("x")}}, {Kind: impl.DatumNumber, Items: []impl.Datum{symbol("x")}},
		list(symbol("x"), nested(20)), list(append(atoms(599), symbol("x"))...), list(symbol("x"), nested(deepNesting)),
	}
	for _, d := range invalid {
		if got := impl.SymbolsOf(d); len(got) != 0 {
			t.Errorf("SymbolsOf(%.100s) = %q, want nil", show(d), got)
		}
	}
	many := make([]impl.Datum, 599)
	for i := range many {
		many[i] = symbol("s" + impl.FormatNumber(i))
	}
	got := impl.SymbolsOf(list(many...))
	for i, s := range got {
		if s != many[i].Text {
			t.Fatalf("symbol %d is %s", i, s)
		}
	}
	if len(got) != len(many) {
		t.Errorf("SymbolsOf finds %d symbols of %d", len(got), len(many))
	}
}
