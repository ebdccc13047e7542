package tests

import (
	"testing"

	"loop.example/g03220/impl"
)

// sampleForms returns syntax objects, valid and not, in slices with spare
// capacity.
func sampleForms(seed int) []impl.Syntax {
	g := generator(seed)
	forms := []impl.Syntax{
		form(identifier("x", 1, 3), form(identifier("y"), identifier("x", 3)), form(), plain(text("x"))), identifier("x", 1, 3, 4), identifier("x"), form(), form(form(form(identifier("y", 2)))),
		{Kind: 9, Number: 3, Text: "\xff", Scopes: []int{3, 1}, Items: []impl.Syntax{identifier("x", 3), {Kind: -1, Scopes: []int{-3}, Items: leaves(2)}}},
		form(identifier("x", 2, 2), identifier("y", 3)), {Scopes: []int{3}, Items: []impl.Syntax{identifier("x", 1)}}, {Kind: impl.DatumNumber, Scopes: []int{1, 3}},
	}
	for range 200 {
		forms = append(forms, g.syntax(3), g.strangeSyntax(3))
	}
	return formsWithSpare(forms)
}

func sampleSets() [][]int {
	var lists [][]int
	for _, list := range append([][]int{nil, {}, {1}, {3}, {1, 3, 4, 6}, {2, 3, 5, impl.MaxScope}, {1, 4}}, noSets...) {
		lists = append(lists, scopesWithSpare(list))
	}
	return lists
}

func TestSetsAreNotModified(t *testing.T) {
	lists, same := sampleSets(), sampleSets()
	for i, list := range lists {
		for _, n := range numbers {
			impl.HasScope(list, n)
			impl.WithScope(list, n)
			impl.FlippedScope(list, n)
		}
		impl.IsScopeSet(list)
		impl.WithoutUses(list)
		impl.IsSubset(list, lists[4])
		impl.IsSubset(lists[4], list)
		if !sameInts(list, same[i]) || !spareScopesAreIntact(list) {
			t.Errorf("%v was modified", same[i])
		}
	}
}

func TestSetsShareNoMemory(t *testing.T) {
	for _, list := range sampleSets() {
		seen := newMemory()
		seen.sharesScopes(list)
		for _, n := range numbers {
			if seen.sharesScopes(impl.WithScope(list, n)) || seen.sharesScopes(impl.FlippedScope(list, n)) {
				t.Errorf("the results for %v and %d share memory", list, n)
			}
		}
		if seen.sharesScopes(impl.WithoutUses(list)) {
			t.Errorf("the result of WithoutUses(%v) shares memory", list)
		}
	}
}

func TestFormsAreNotModified(t *testing.T) {
	forms, same := sampleForms(31), sampleForms(31)
	for i, s := range forms {
		impl.CountSyntax(s)
		impl.IsSyntax(s)
		impl.DatumOf(s)
		impl.EqualSyntax(s, forms[0])
		for _, n := range []int{1, 2, 3, 4, 0, impl.MaxScope} {
			impl.AddScope(s, n)
			impl.FlipScope(s, n)
		}
		impl.StripUses(s)
		impl.IsIdentifier(s)
		impl.SameIdentifier(s, forms[1])
		impl.IdentifiersIn(s)
		impl.FormatSyntax(s)
		if !sameSyntax(s, same[i]) || !spareFormsAreIntact(s.Items) || !spareScopesAreIntact(s.Scopes) {
			t.Errorf("%s was modified", showForm(same[i]))
		}
	}
}

func TestFormsShareNoMemory(t *testing.T) {
	for _, s := range sampleForms(33) {
		seen := newMemory()
		if seen.sharesForm(s) {
			t.Fatal("the argument shares memory with itself")
		}
		for _, n := range []int{1, 2, 3, 4, 5, 6, 0, -1, impl.MaxScope, impl.MaxScope + 1} {
			if seen.sharesForm(impl.AddScope(s, n)) || seen.sharesForm(impl.FlipScope(s, n)) {
				t.Errorf("the results for %s and %d share memory", showForm(s), n)
			}
		}
		if seen.sharesForm(impl.StripUses(s)) {
			t.Errorf("the result of StripUses(%s) shares memory", showForm(s))
		}
		if seen.sharesForms(impl.IdentifiersIn(s)) || seen.sharesForms(impl.IdentifiersIn(s)) {
			t.Errorf("the identifiers of %s share memory", showForm(s))
		}
	}
}

func TestDataAndFormsShareNoMemory(t *testing.T) {
	seen := newMemory()
	for _, d := range sampleData(35) {
		if seen.sharesDatum(d) || seen.sharesForm(impl.SyntaxOf(d)) || seen.sharesForm(impl.SyntaxOf(d)) {
			t.Fatalf("the results of SyntaxOf(%s) share memory", show(d))
		}
	}
	for _, s := range sampleForms(37) {
		if seen.sharesDatum(impl.DatumOf(s)) || seen.sharesDatum(impl.DatumOf(s)) {
			t.Fatalf("the results of DatumOf(%s) share memory", showForm(s))
		}
	}
}

func TestSyntaxOfDoesNotModify(t *testing.T) {
	data, same := sampleData(39), sampleData(39)
	for i, d := range data {
		impl.SyntaxOf(d)
		if !sameDatum(d, same[i]) || !spareIsIntact(d.Items) {
			t.Errorf("SyntaxOf modifies %s", show(same[i]))
		}
	}
}

// A part that stands twice in an argument does not stand twice in the memory
// of a result.
func TestResultsOfSharedFormsShareNoMemory(t *testing.T) {
	part := form(identifier("x", 1, 3), form(identifier("y", 2, 6)))
	same := identifier("z", part.Items[0].Scopes...)
	twice := []impl.Syntax{part, part, form(part, same, same)}
	for _, s := range []impl.Syntax{form(twice...), {Kind: 9, Items: twice}, {Kind: impl.DatumSymbol, Text: "a", Scopes: part.Items[0].Scopes, Items: twice}} {
		seen := newMemory()
		for _, n := range []int{1, 2, 3, 4, 0} {
			if seen.sharesForm(impl.AddScope(s, n)) || seen.sharesForm(impl.FlipScope(s, n)) {
				t.Errorf("parts of the results for %s and %d share memory", showForm(s), n)
			}
		}
		if seen.sharesForm(impl.StripUses(s)) || seen.sharesForms(impl.IdentifiersIn(s)) || seen.sharesDatum(impl.DatumOf(s)) {
			t.Errorf("parts of the results for %s share memory", showForm(s))
		}
	}
	atom := list(symbol("x"), list())
	if seen := newMemory(); seen.sharesForm(impl.SyntaxOf(list(atom, atom, list(atom)))) {
		t.Error("parts of the result of SyntaxOf share memory")
	}
}

// isGoodForm describes a valid syntax object apart from IsSyntax, which is
// under test.
func isGoodForm(s impl.Syntax, depth int) bool {
	d := impl.Datum{Kind: s.Kind, Number: s.Number, Text: s.Text}
	good := depth > 0 && fits(d, 1) && (s.Kind == impl.DatumList || len(s.Items) == 0)
	for i, n := range s.Scopes {
		good = good && s.Kind == impl.DatumSymbol && n >= 1 && n <= impl.MaxScope && (i == 0 || n > s.Scopes[i-1])
	}
	for _, item := range s.Items {
		good = good && isGoodForm(item, depth-1)
	}
	return good
}

func TestStrangeForms(t *testing.T) {
	g := generator(41)
	valid := 0
	for range 20000 {
		s := g.strangeSyntax(g.below(4))
		want := isGoodForm(s, impl.MaxSyntaxDepth) && impl.CountSyntax(s) <= impl.MaxSyntax
		if want {
			valid++
		}
		if impl.IsSyntax(s) != want || (impl.FormatSyntax(s) != "") != want || impl.IsIdentifier(s) != (want && s.Kind == impl.DatumSymbol) {
			t.Fatalf("%s is taken for valid or not, unlike %v", showForm(s), want)
		}
		if want {
			continue
		}
		if !sameSyntax(impl.AddScope(s, 5), s) || !sameSyntax(impl.FlipScope(s, 1), s) || !sameSyntax(impl.StripUses(s), s) {
			t.Fatalf("%s, which is not valid, is changed", showForm(s))
		}
		if len(impl.IdentifiersIn(s)) != 0 || !sameDatum(impl.DatumOf(s), impl.Datum{}) || impl.SameIdentifier(s, s) {
			t.Fatalf("%s, which is not valid, has identifiers or a datum", showForm(s))
		}
	}
	if valid < 1000 || valid > 19000 {
		t.Errorf("%d of 20000 syntax objects are valid", valid)
	}
}
