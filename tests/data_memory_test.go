package tests

import (
	"testing"

	"loop.example/g03220/impl"
)

// sampleData returns data, valid and not, in slices with spare capacity.
func sampleData(seed int) []impl.Datum {
	g := generator(seed)
	data := []impl.Datum{
		list(symbol("x"), list(symbol("y"), symbol("x")), list(), text("x")), symbol("x"), list(), list(list(list(symbol("y")))),
		{Kind: 9, Number: 3, Text: "\xff", Items: []impl.Datum{symbol("x"), {Kind: -1, Items: atoms(2)}}}, list(symbol("x"), symbol("X")),
	}
	for range 200 {
		data = append(data, g.datum(3), g.strange(3))
	}
	return cloneWithSpare(data)
}

func TestArgumentsAreNotModified(t *testing.T) {
	data, same := sampleData(3), sampleData(3)
	for i, d := range data {
		impl.ListDatum(d.Items)
		impl.CountNodes(d)
		impl.DepthOf(d)
		impl.EqualData(d, data[0])
		impl.IsDatum(d)
		impl.AreData(d.Items)
		impl.FormatDatum(d)
		impl.FormatData(d.Items)
		impl.SwapSymbols(d, "x", "y")
		impl.SwapSymbols(d, "x", "")
		impl.SymbolsOf(d)
		if !sameDatum(d, same[i]) || !spareIsIntact(d.Items) {
			t.Errorf("%s was modified", show(same[i]))
		}
	}
}

func TestResultsShareNoMemoryWithArguments(t *testing.T) {
	for _, d := range sampleData(4) {
		results := []impl.Datum{
			impl.ListDatum(d.Items), impl.SwapSymbols(d, "x", "y"), impl.SwapSymbols(d, "x", "1"), impl.SwapSymbols(d, "x", "x"), impl.SwapSymbols(d, "none", "other"),
		}
		seen := map[*impl.Datum]bool{}
		if shares(d.Items, seen) {
			t.Fatal("the argument shares memory with itself")
		}
		for i, result := range results {
			if shares(result.Items, seen) {
				t.Errorf("the result %d of %s shares memory", i, show(d))
			}
		}
	}
}

func TestResultsShareNoMemoryWithThemselves(t *testing.T) {
	part := list(symbol("x"), list(symbol("y")))
	twice := []impl.Datum{part, part, list(part)}
	invalid := impl.Datum{Kind: 9, Items: twice}
	results := []impl.Datum{
		impl.ListDatum(twice), impl.SwapSymbols(list(twice...), "x", "y"), impl.SwapSymbols(list(twice...), "x", ""), impl.SwapSymbols(invalid, "x", "y"),
	}
	for i, result := range results {
		if shares(result.Items, map[*impl.Datum]bool{}) {
			t.Errorf("parts of the result %d share memory", i)
		}
	}
}

func TestParsedDataShareNoMemory(t *testing.T) {
	source := "(a (b) (c d) 'e '(f)) () ((())) '() 'a 'a"
	seen := map[*impl.Datum]bool{}
	for range 3 {
		if shares(mustParse(t, source), seen) {
			t.Error("parsed data share memory")
		}
	}
}

func TestSymbolsAreNewMemory(t *testing.T) {
	d := list(symbol("a"), symbol("b"))
	first := impl.SymbolsOf(d)
	first[0] = "changed"
	if second := impl.SymbolsOf(d); second[0] != "a" || d.Items[0].Text != "a" {
		t.Error("the results of SymbolsOf share memory")
	}
}

// fits describes a valid datum apart from IsDatum, which is under test.
func fits(d impl.Datum, depth int) bool {
	leaf := len(d.Items) == 0
	own := false
	switch d.Kind {
	case impl.DatumList:
		own = d.Number == 0 && d.Text == ""
	case impl.DatumSymbol, impl.DatumNumber, impl.DatumBoolean, impl.DatumString:
		written := map[int]string{impl.DatumSymbol: d.Text, impl.DatumNumber: impl.FormatNumber(d.Number), impl.DatumBoolean: "#t", impl.DatumString: "\"" + d.Text + "\""}[d.Kind]
		if d.Kind == impl.DatumBoolean && d.Number == 0 {
			written = "#f"
		}
		tokens, ok := tokensOf(written)
		if ok && len(tokens) == 1 && tokens[0] == written {
			atom, read := atomByOracle(written)
			own = leaf && read && sameDatum(atom, d)
		}
	}
	for _, item := range d.Items {
		own = own && fits(item, depth-1)
	}
	return own && depth > 0
}

func TestStrangeData(t *testing.T) {
	g := generator(11)
	valid := 0
	for range 20000 {
		d := g.strange(g.below(4))
		want := fits(d, impl.MaxDepth) && impl.CountNodes(d) <= impl.MaxNodes
		if want {
			valid++
		}
		if impl.IsDatum(d) != want || impl.AreData([]impl.Datum{{}, d}) != want || (impl.FormatDatum(d) != "") != want {
			t.Fatalf("%s is taken for valid or not, unlike %v", show(d), want)
		}
		if !want && (len(impl.SymbolsOf(d)) != 0 || !sameDatum(impl.SwapSymbols(d, "a", "b"), d)) {
			t.Fatalf("%s, which is not valid, has symbols", show(d))
		}
	}
	if valid < 1000 || valid > 19000 {
		t.Errorf("%d of 20000 data are valid", valid)
	}
}
