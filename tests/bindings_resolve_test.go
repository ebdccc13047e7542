package tests

import (
	"slices"
	"testing"

	"loop.example/g03220/impl"
)

// someBindings has, for x, sets of which one contains all others, and sets of
// which none does.
func someBindings() []impl.Binding {
	return []impl.Binding{
		variable(0, "x", 1), variable(1, "y", 2, 5), variable(2, "x"), variable(3, "x", 1, 2, 5), binding(impl.BindingForm, 2, "if"), variable(4, "x", 5), binding(impl.BindingMacro, 5, "y", 2),
		variable(6, "x", 7), variable(7, "z", 1), variable(8, "z", 2), variable(9, "x", 1, 2, 5, 7, 11), variable(10, "xx"), variable(11, "x", 13),
	}
}

func TestCandidates(t *testing.T) {
	list := someBindings()
	cases := []struct {
		id   impl.Syntax
		want []int
	}{
		{identifier("x"), []int{2}}, {impl.Syntax{Kind: impl.DatumSymbol, Text: "x", Scopes: []int{}}, []int{2}}, {identifier("x", 1), []int{0, 2}}, {identifier("x", 2), []int{2}}, {identifier("x", 1, 2), []int{0, 2}}, {identifier("x", 1, 5), []int{0, 2, 4}},
		{identifier("x", 1, 2, 5), []int{0, 2, 3, 4}}, {identifier("x", 1, 2, 5, 7), []int{0, 2, 3, 4, 6}}, {identifier("x", 1, 2, 5, 7, 11), []int{0, 2, 3, 4, 6, 9}}, {identifier("x", 2, 11), []int{2}}, {identifier("x", 1, 2, 3, 4, 5), []int{0, 2, 3, 4}},
		{identifier("x", everyScope()...), []int{0, 2, 3, 4, 6, 9, 11}}, {identifier("y"), nil}, {identifier("y", 5), nil}, {identifier("y", 2), []int{5}}, {identifier("y", 2, 5), []int{1, 5}}, {identifier("z", 1, 2), []int{7, 8}}, {identifier("z", 3), nil},
		{identifier("if", 4), []int{2}}, {identifier("xx", 1), []int{10}}, {identifier("xxx", 1), nil}, {identifier("lambda"), nil},
	}
	for _, c := range cases {
		got := impl.Candidates(list, c.id)
		if len(got) != len(c.want) {
			t.Errorf("Candidates of %.100s = %s, want %v", showForm(c.id), showBindings(got...), c.want)
			continue
		}
		for i, n := range c.want {
			if got[i].Number != n || got[i].Text != c.id.Text || !slices.ContainsFunc(list, func(b impl.Binding) bool { return sameBinding(b, got[i]) }) {
				t.Errorf("Candidates of %.100s = %s, want %v", showForm(c.id), showBindings(got...), c.want)
			}
		}
	}
	for _, empty := range [][]impl.Binding{nil, {}} {
		if got := impl.Candidates(empty, identifier("x")); len(got) != 0 {
			t.Errorf("Candidates of no bindings = %s", showBindings(got...))
		}
	}
}

func TestCandidatesOfManyBindings(t *testing.T) {
	list := manySets(1000, "x")
	if got := impl.Candidates(list, identifier("x", everyScope()...)); !sameBindings(got, list) {
		t.Errorf("Candidates of 1000 bindings = %s", showBindings(got...))
	}
	if got := impl.Candidates(list, identifier("x", 10, 1000, 50000)); !sameBindings(got, []impl.Binding{list[9], list[999]}) {
		t.Errorf("Candidates of 1000 bindings = %s", showBindings(got...))
	}
	list = manyBindings(1000)
	if got := impl.Candidates(list, identifier("v999", 1)); !sameBindings(got, list[999:]) {
		t.Errorf("Candidates of 1000 bindings = %s", showBindings(got...))
	}
}

func TestResolve(t *testing.T) {
	list := someBindings()
	cases := []struct {
		id         impl.Syntax
		code, want int
	}{
		{identifier("x"), 1, 2}, {identifier("x", 1), 1, 0}, {identifier("x", 2), 1, 2}, {identifier("x", 1, 2), 1, 0}, {identifier("x", 5), 1, 4}, {identifier("x", 1, 5), 2, 0}, {identifier("x", 1, 2, 5), 1, 3}, {identifier("x", 1, 2, 5, 7), 2, 0},
		{identifier("x", 1, 2, 5, 7, 11), 1, 9}, {identifier("x", 1, 2, 3, 5, 7, 11), 1, 9}, {identifier("x", 1, 2, 5, 7, 11, 13), 2, 0}, {identifier("x", everyScope()...), 2, 0}, {identifier("x", 13), 1, 11}, {identifier("x", 7, 13), 2, 0},
		{identifier("y"), 0, 0}, {identifier("y", 5), 0, 0}, {identifier("y", 2), 1, 5}, {identifier("y", 2, 3), 1, 5}, {identifier("y", 2, 5), 1, 1}, {identifier("z"), 0, 0}, {identifier("z", 1), 1, 7}, {identifier("z", 2), 1, 8}, {identifier("z", 1, 2), 2, 0},
		{identifier("if"), 1, 2}, {identifier("if", 3, 4), 1, 2}, {identifier("xx", 1), 1, 10}, {identifier("lambda"), 0, 0}, {identifier("...", 1), 0, 0},
	}
	for _, c := range cases {
		got, code := impl.Resolve(list, c.id)
		if code != c.code {
			t.Errorf("Resolve of %.100s = %s, %d, want %d", showForm(c.id), showBindings(got), code, c.code)
			continue
		}
		var want impl.Binding
		if code == impl.ResolveFound {
			want = list[slices.IndexFunc(list, func(b impl.Binding) bool { return b.Text == c.id.Text && b.Number == c.want })]
		}
		if !sameBinding(got, want) {
			t.Errorf("Resolve of %.100s = %s, want %s", showForm(c.id), showBindings(got), showBindings(want))
		}
	}
	for _, empty := range [][]impl.Binding{nil, {}} {
		if got, code := impl.Resolve(empty, identifier("x")); code != impl.ResolveNone || !sameBinding(got, impl.Binding{}) {
			t.Errorf("Resolve without bindings = %s, %d", showBindings(got), code)
		}
	}
}

// In each order of the bindings, the same one is found, or none.
func TestResolveInEachOrder(t *testing.T) {
	id := identifier("x", 1, 2, 3, 4)
	cases := []struct {
		sets [][]int
		code int
		want []int
	}{
		{[][]int{{1}}, 1, []int{1}}, {[][]int{nil}, 1, nil}, {[][]int{nil, {1}}, 1, []int{1}}, {[][]int{nil, {1}, {1, 2}}, 1, []int{1, 2}}, {[][]int{{1}, {2}, {1, 2}}, 1, []int{1, 2}}, {[][]int{nil, {2}, {3}, {2, 3}, {1, 2, 3}}, 1, []int{1, 2, 3}},
		{[][]int{{1}, {2}, {3}, {4}, {1, 2, 3, 4}}, 1, []int{1, 2, 3, 4}}, {[][]int{{1, 2}, {3, 4}, {1, 2, 3, 4}}, 1, []int{1, 2, 3, 4}}, {[][]int{{1}, {5}, {1, 5}, {1, 2, 3, 4, 5}}, 1, []int{1}},
		{[][]int{{1}, {2}}, 2, nil}, {[][]int{nil, {1}, {2}}, 2, nil}, {[][]int{{1, 2}, {2, 3}}, 2, nil}, {[][]int{{1, 2}, {3}}, 2, nil}, {[][]int{{1, 2, 3}, {4}, nil}, 2, nil}, {[][]int{{1, 2}, {1, 3}, {2, 3}, {1}}, 2, nil}, {[][]int{{1, 2, 3}, {1, 2, 4}, {1, 2}}, 2, nil},
		{[][]int{{1}, {2}, {1, 2, 5}}, 2, nil}, {[][]int{{5}, {1, 5}}, 0, nil}, {[][]int{{1, 2, 3, 4, 5}}, 0, nil}, {nil, 0, nil},
	}
	for _, c := range cases {
		list := []impl.Binding{variable(99, "y", 1, 2, 3, 4)}
		for i, set := range c.sets {
			list = append(list, variable(i, "x", set...))
		}
		eachOrder(list, 0, func() {
			got, code := impl.Resolve(list, id)
			found := code == impl.ResolveFound && (got.Text != "x" || !sameInts(got.Scopes, c.want) || !sameInts(c.sets[got.Number], c.want))
			if code != c.code || found || code != impl.ResolveFound && !sameBinding(got, impl.Binding{}) {
				t.Errorf("Resolve of %s = %s, %d, want %v, %d", showBindings(list...), showBindings(got), code, c.want, c.code)
			}
		})
	}
}

// eachOrder calls f with the elements behind those that are fixed in each
// order.
func eachOrder(list []impl.Binding, fixed int, f func()) {
	if fixed == len(list) {
		f()
		return
	}
	for i := fixed; i < len(list); i++ {
		list[fixed], list[i] = list[i], list[fixed]
		eachOrder(list, fixed+1, f)
		list[fixed], list[i] = list[i], list[fixed]
	}
}

// The model has sets as the bits of a number: each family of sets of three
// scopes with each identifier, forward and backward.
func TestResolveOfEachFamily(t *testing.T) {
	for family := range 1 << 8 {
		var list []impl.Binding
		for bits := range 8 {
			if family>>bits&1 == 1 {
				list = append(list, variable(bits, "x", setOf(bits)...))
			}
		}
		for id := range 8 {
			checkFamily(t, list, id)
			backward := slices.Clone(list)
			slices.Reverse(backward)
			checkFamily(t, backward, id)
		}
	}
}

// checkFamily compares the results for bindings whose Number has the bits of
// their sets with the model.
func checkFamily(t *testing.T, list []impl.Binding, id int) {
	t.Helper()
	var within []impl.Binding
	for _, b := range list {
		if b.Number&^id == 0 {
			within = append(within, b)
		}
	}
	if got := impl.Candidates(list, identifier("x", setOf(id)...)); !sameBindings(got, within) {
		t.Errorf("Candidates(%s, %d) = %s", showBindings(list...), id, showBindings(got...))
	}
	code, want := impl.ResolveNone, impl.Binding{}
	if len(within) > 0 {
		code = impl.ResolveAmbiguous
	}
	for _, b := range within {
		containsAll := true
		for _, other := range within {
			containsAll = containsAll && other.Number&^b.Number == 0
		}
		if containsAll {
			code, want = impl.ResolveFound, b
		}
	}
	if got, found := impl.Resolve(list, identifier("x", setOf(id)...)); found != code || !sameBinding(got, want) {
		t.Errorf("Resolve(%s, %d) = %s, %d, want %d", showBindings(list...), id, showBindings(got), found, code)
	}
}

// Bindings of other names and scopes that no binding has are of no account,
// and neither is a scope that the identifier and all bindings get.
func TestResolveDoesNotDependOnOthers(t *testing.T) {
	g := generator(49)
	codes := map[int]int{}
	for range 10000 {
		list := g.bindings(10)
		if !areGoodBindings(list) {
			continue
		}
		id := identifier([]string{"a", "b", "if"}[g.below(3)], setOf(g.below(16)|g.below(4)<<6)...)
		want, code := impl.Resolve(list, id)
		codes[code]++
		others := append([]impl.Binding{variable(1, "other"), variable(2, "other2", id.Scopes...)}, list...)
		others = append(others, variable(3, "aa", id.Scopes...), variable(4, id.Text, 50000), variable(5, id.Text, impl.WithScope(id.Scopes, 50001)...))
		if got, same := impl.Resolve(others, id); same != code || !sameBinding(got, want) {
			t.Fatalf("other bindings change Resolve(%s, %s)", showBindings(list...), showForm(id))
		}
		if got, same := impl.Resolve(list, impl.AddScope(id, 50000)); same != code || !sameBinding(got, want) {
			t.Fatalf("another scope changes Resolve(%s, %s)", showBindings(list...), showForm(id))
		}
		var moved []impl.Binding
		for _, b := range list {
			b.Scopes = impl.WithScope(b.Scopes, 50000)
			moved = append(moved, b)
		}
		if code == impl.ResolveFound {
			want.Scopes = impl.WithScope(want.Scopes, 50000)
		}
		if got, same := impl.Resolve(moved, impl.AddScope(id, 50000)); same != code || !sameBinding(got, want) {
			t.Fatalf("a scope everywhere changes Resolve(%s, %s)", showBindings(list...), showForm(id))
		}
		if _, none := impl.Resolve(moved, id); none != impl.ResolveNone {
			t.Fatalf("Resolve(%s, %s) finds a scope that is not there", showBindings(moved...), showForm(id))
		}
	}
	if codes[0] < 1000 || codes[1] < 1000 || codes[2] < 100 {
		t.Errorf("the codes are %v", codes)
	}
}

func TestResolveOfManyBindings(t *testing.T) {
	list := manySets(999, "x")
	all := identifier("x", append(everyScope()[:1500], 50000)...)
	if got, code := impl.Resolve(list, all); code != impl.ResolveAmbiguous || !sameBinding(got, impl.Binding{}) {
		t.Errorf("Resolve of 999 bindings = %s, %d", showBindings(got), code)
	}
	greatest := variable(8, "x", append(everyScope()[:999], 50000)...)
	for _, at := range []int{0, 1, 500, 998, 999} {
		longer := slices.Insert(slices.Clone(list), at, greatest)
		if got, code := impl.Resolve(longer, all); code != impl.ResolveFound || !sameBinding(got, greatest) {
			t.Errorf("Resolve of 1000 bindings with the greatest one at %d = %s, %d", at, showBindings(got), code)
		}
	}
	nested := manySets(1000, "x")
	for i := range nested {
		nested[i].Number, nested[i].Scopes = i, everyScope()[:(i+500)%1000]
	}
	for _, n := range []int{0, 1, 499, 500, 998, 999} {
		if got, code := impl.Resolve(nested, identifier("x", everyScope()[:n]...)); code != impl.ResolveFound || len(got.Scopes) != n || !sameBinding(got, nested[got.Number]) {
			t.Errorf("Resolve of 1000 nested sets with %d scopes = %s, %d", n, showBindings(got), code)
		}
	}
}

func TestSameMeaning(t *testing.T) {
	list := []impl.Binding{
		variable(1, "x"), variable(2, "x", 1), variable(1, "x", 2), variable(1, "y", 1), binding(impl.BindingMacro, 1, "m"), binding(impl.BindingForm, 1, "f"), binding(impl.BindingPrimitive, 1, "p"), binding(impl.BindingForm, 1, "lambda"), variable(0, "w"), binding(impl.BindingForm, 0, "q"),
	}
	// Those of a group have the same meaning, and those of different groups
	// have not.
	groups := [][]impl.Syntax{
		{identifier("x"), identifier("x", 3), identifier("x", 2), identifier("x", 2, 3), identifier("y", 1), identifier("y", 1, 2)}, {identifier("x", 1), identifier("x", 1, 5)}, {identifier("m"), identifier("m", 1)}, {identifier("f"), identifier("lambda"), identifier("lambda", 7)}, {identifier("p"), identifier("p", 9)},
		{identifier("w")}, {identifier("q"), identifier("q", 1)}, {identifier("y"), identifier("y", 2), identifier("y", 2, 4)}, {identifier("u"), identifier("u", 1), identifier("u", 3, 4), identifier("u", everyScope()...)}, {identifier("uu"), identifier("uu", 1)},
	}
	for i, group := range groups {
		for _, a := range group {
			for j, other := range groups {
				for _, b := range other {
					if got := impl.SameMeaning(list, a, b); got != (i == j) {
						t.Errorf("SameMeaning of %.100s and %.100s = %v", showForm(a), showForm(b), got)
					}
				}
			}
			ambiguous := identifier("x", 1, 2)
			if impl.SameMeaning(list, a, ambiguous) || impl.SameMeaning(list, ambiguous, a) || impl.SameMeaning(list, ambiguous, ambiguous) || impl.SameMeaning(list, ambiguous, identifier("x", 1, 2, 3)) {
				t.Errorf("an ambiguous identifier has the meaning of %.100s or of itself", showForm(a))
			}
		}
	}
	for _, empty := range [][]impl.Binding{nil, {}} {
		if !impl.SameMeaning(empty, identifier("x"), identifier("x", 1)) || impl.SameMeaning(empty, identifier("x"), identifier("y")) {
			t.Error("SameMeaning without bindings does not compare the texts")
		}
	}
}

// Each combination of kinds and numbers, of no binding and of an ambiguous
// one, against the description of the chapter.
func TestSameMeaningOfEachPair(t *testing.T) {
	g := generator(51)
	same := 0
	for range 20000 {
		list := g.bindings(10)
		a := identifier([]string{"a", "b", "if", "c"}[g.below(4)], setOf(g.below(16)|g.below(4)<<6)...)
		b := identifier([]string{"a", "b", "if", "c"}[g.below(4)], setOf(g.below(16)|g.below(4)<<6)...)
		forA, codeA := impl.Resolve(list, a)
		forB, codeB := impl.Resolve(list, b)
		want := false
		if areGoodBindings(list) {
			want = codeA == 1 && codeB == 1 && forA.Kind == forB.Kind && forA.Number == forB.Number || codeA == 0 && codeB == 0 && a.Text == b.Text
		}
		if want {
			same++
		}
		if impl.SameMeaning(list, a, b) != want || impl.SameMeaning(list, b, a) != want {
			t.Fatalf("SameMeaning(%s, %s, %s) = %v", showBindings(list...), showForm(a), showForm(b), !want)
		}
	}
	if same < 1000 || same > 19000 {
		t.Errorf("%d of 20000 pairs have the same meaning", same)
	}
}

func checkNothingIsFound(t *testing.T, list []impl.Binding, id impl.Syntax) {
	t.Helper()
	if got := impl.Candidates(list, id); len(got) != 0 {
		t.Errorf("Candidates(%s, %.100s) = %s", showBindings(list...), showForm(id), showBindings(got...))
	}
	if got, code := impl.Resolve(list, id); code != impl.ResolveNone || !sameBinding(got, impl.Binding{}) {
		t.Errorf("Resolve(%s, %.100s) = %s, %d", showBindings(list...), showForm(id), showBindings(got), code)
	}
	for _, other := range []impl.Syntax{id, identifier("x"), identifier("none")} {
		if impl.SameMeaning(list, id, other) || impl.SameMeaning(list, other, id) {
			t.Errorf("SameMeaning(%s, %.100s, %.100s) = true", showBindings(list...), showForm(id), showForm(other))
		}
	}
}

func TestResolveInListsThatAreNotValid(t *testing.T) {
	for _, list := range badLists() {
		for _, id := range []impl.Syntax{identifier("x"), identifier("x", 1, 4), identifier("x", everyScope()...), identifier("none"), identifier("v0")} {
			checkNothingIsFound(t, list, id)
		}
	}
}

func TestResolveOfNoIdentifiers(t *testing.T) {
	for _, id := range noIdentifiers() {
		for _, list := range [][]impl.Binding{nil, {}, {variable(1, "x")}, {variable(1, "x"), variable(2, "x", 1)}, impl.CoreBindings(), {variable(1, "x"), variable(1, "x")}} {
			checkNothingIsFound(t, list, id)
		}
	}
	g := generator(53)
	for range 5000 {
		s := g.strangeSyntax(2)
		if isGoodForm(s, impl.MaxSyntaxDepth) && s.Kind == impl.DatumSymbol {
			continue
		}
		checkNothingIsFound(t, []impl.Binding{variable(1, "x"), {Text: s.Text, Scopes: s.Scopes, Kind: impl.BindingVariable}}, s)
		checkNothingIsFound(t, []impl.Binding{variable(1, "x")}, s)
	}
}
