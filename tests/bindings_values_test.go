package tests

import (
	"slices"
	"strings"
	"testing"

	"loop.example/g03220/impl"
)

func TestLimitsAndKindsOfBindings(t *testing.T) {
	got := []int{impl.MaxBindings, impl.MaxMeaning, impl.BindingForm, impl.BindingPrimitive, impl.BindingVariable, impl.BindingMacro, impl.ResolveNone, impl.ResolveFound, impl.ResolveAmbiguous}
	want := []int{1000, 99999, 1, 2, 3, 4, 0, 1, 2}
	if !sameInts(got, want) {
		t.Errorf("the constants are %v, want %v", got, want)
	}
}

func TestNames(t *testing.T) {
	if got := impl.FormNames(); !slices.Equal(got, formWords) {
		t.Errorf("FormNames() = %q", got)
	}
	if got := impl.PrimitiveNames(); !slices.Equal(got, primitiveWords) {
		t.Errorf("PrimitiveNames() = %q", got)
	}
}

func TestCoreBindings(t *testing.T) {
	var want []impl.Binding
	for i, name := range formWords {
		want = append(want, binding(1, i, name))
	}
	for i, name := range primitiveWords {
		want = append(want, binding(2, i, name))
	}
	got := impl.CoreBindings()
	if !sameBindings(got, want) {
		t.Errorf("CoreBindings() = %s", showBindings(got...))
	}
	if !impl.AreBindings(got) {
		t.Error("the core bindings are not valid")
	}
	for _, b := range want {
		found, code := impl.Resolve(got, identifier(b.Text, 1, 5))
		if code != impl.ResolveFound || !sameBinding(found, b) {
			t.Errorf("%s resolves to %s, %d", b.Text, showBindings(found), code)
		}
	}
}

func TestIsBinding(t *testing.T) {
	for _, k := range kindsOfBindings {
		for n, want := range map[int]bool{-1: false, 0: true, 1: true, k.last - 1: true, k.last: true, k.last + 1: false, impl.MaxMeaning + 1: false, leastInt: false, greatestInt: false} {
			for _, b := range []impl.Binding{binding(k.kind, n, "x"), binding(k.kind, n, "quote", 1, 4), binding(k.kind, n, "car", impl.MaxScope)} {
				if got := impl.IsBinding(b); got != want {
					t.Errorf("IsBinding(%s) = %v", showBindings(b), got)
				}
			}
		}
		for n := -20; n <= 100010; n++ {
			if got := impl.IsBinding(binding(k.kind, n, "x", 1)); got != (0 <= n && n <= k.last) {
				t.Fatalf("IsBinding of the number %d of the kind %s = %v", n, k.word, got)
			}
		}
		for _, s := range someTexts {
			if !impl.IsBinding(binding(k.kind, k.last, s, 2, 3)) {
				t.Errorf("IsBinding of a %s %s = false", k.word, s)
			}
		}
		for bits := range 1 << len(universe) {
			if !impl.IsBinding(binding(k.kind, 0, "x", setOf(bits)...)) {
				t.Errorf("IsBinding of a %s with %v = false", k.word, setOf(bits))
			}
		}
		if !impl.IsBinding(binding(k.kind, 1, "x", everyScope()...)) || !impl.IsBinding(impl.Binding{Text: "x", Scopes: []int{}, Kind: k.kind}) {
			t.Errorf("IsBinding of a %s with all scopes or an empty set is false", k.word)
		}
	}
	for _, b := range badBindings() {
		if impl.IsBinding(b) {
			t.Errorf("IsBinding(%s) = true", showBindings(b))
		}
	}
}

// goodLists are valid lists, some of them as long as they may be.
func goodLists() [][]impl.Binding {
	return [][]impl.Binding{
		nil, {}, {variable(1, "x")}, {variable(0, "x", everyScope()...)}, impl.CoreBindings(), manyBindings(999), manyBindings(1000), manySets(1000, "x"),
		{variable(1, "x"), variable(1, "y")}, {variable(1, "x", 1), variable(1, "y", 1)}, {variable(1, "x"), variable(1, "x", 1)}, {variable(1, "x", 1), variable(1, "x", 2), variable(1, "x", 1, 2), variable(1, "x"), variable(1, "y", 1, 2)},
		{variable(1, "x", 1, 2), variable(1, "x", 1, 3), variable(1, "x", 2, 3), variable(1, "x", 1, 234), variable(1, "x", 12, 34), variable(1, "x", 123, 4000), variable(1, "x", 1234)},
		{variable(1, "x"), binding(impl.BindingMacro, 1, "xx"), binding(impl.BindingForm, 1, "x", 5), binding(impl.BindingPrimitive, 1, "x", 8)}, {variable(1, "x1", 2), variable(1, "x", 1, 2), variable(1, "x1"), variable(1, "x", 12)},
		append(manyBindings(500), manySets(500, "v0")...), append(impl.CoreBindings(), variable(0, "car", 1), variable(1, "if", 1)),
	}
}

func TestAreBindings(t *testing.T) {
	for _, list := range goodLists() {
		if !impl.AreBindings(list) {
			t.Errorf("AreBindings(%s) = false", showBindings(list...))
		}
	}
	for _, list := range badLists() {
		if impl.AreBindings(list) {
			t.Errorf("AreBindings(%s) = true", showBindings(list...))
		}
	}
	list := manyBindings(1000)
	list[999] = variable(5, list[0].Text)
	if impl.AreBindings(list) {
		t.Error("AreBindings of 1000 bindings with the first one as the last one is true")
	}
	list[999] = variable(5, list[0].Text, 1)
	if !impl.AreBindings(list) {
		t.Error("AreBindings of 1000 bindings with the text of the first one as that of the last one is false")
	}
}

// Long sets that share memory cost no more than their elements.
func TestAreBindingsOfLongSets(t *testing.T) {
	all := everyScope()
	names, sizes := manyBindings(1000), manySets(1000, "x")
	for i := range 1000 {
		names[i].Scopes, sizes[i].Scopes = all, all[:len(all)-i]
	}
	if !impl.AreBindings(names) || !impl.AreBindings(sizes) {
		t.Error("AreBindings of 1000 bindings with long sets is false")
	}
	sizes[999].Scopes = everyScope()
	if impl.AreBindings(sizes) {
		t.Error("AreBindings of 1000 bindings, two of them with all scopes, is true")
	}
}

func TestAreBindingsOfAnyList(t *testing.T) {
	g := generator(43)
	valid := 0
	for range 20000 {
		list := g.bindings(12)
		if g.below(4) == 0 {
			list = append(list, g.strangeBinding())
		}
		want := areGoodBindings(list)
		if want {
			valid++
		}
		if got := impl.AreBindings(list); got != want {
			t.Fatalf("AreBindings(%s) = %v", showBindings(list...), got)
		}
	}
	if valid < 5000 || valid > 19000 {
		t.Errorf("%d of 20000 lists are valid", valid)
	}
}

func TestAddBinding(t *testing.T) {
	b := variable(99999, "new", 2, 7)
	for _, list := range goodLists() {
		got, ok := impl.AddBinding(list, b)
		if len(list) == impl.MaxBindings {
			if ok || !sameBindings(got, list) {
				t.Errorf("AddBinding to %s = %s, %v", showBindings(list...), showBindings(got...), ok)
			}
			continue
		}
		want := append(slices.Clone(list), b)
		if !ok || !sameBindings(got, want) {
			t.Errorf("AddBinding to %s = %s, %v", showBindings(list...), showBindings(got...), ok)
		}
		again, ok := impl.AddBinding(got, b)
		if ok || !sameBindings(again, want) {
			t.Errorf("AddBinding of a binding that is there = %s, %v", showBindings(again...), ok)
		}
	}
	for _, list := range badLists() {
		if got, ok := impl.AddBinding(list, b); ok || !sameBindings(got, list) {
			t.Errorf("AddBinding to %s = %s, %v", showBindings(list...), showBindings(got...), ok)
		}
	}
	for _, bad := range badBindings() {
		for _, list := range [][]impl.Binding{nil, {}, {variable(1, "y"), variable(2, "z", 1)}, manyBindings(1000), {variable(1, "y"), variable(2, "y")}, {bad}} {
			if got, ok := impl.AddBinding(list, bad); ok || !sameBindings(got, list) {
				t.Errorf("AddBinding of %s = %s, %v", showBindings(bad), showBindings(got...), ok)
			}
		}
	}
}

func TestAddBindingWithEqualFields(t *testing.T) {
	list := []impl.Binding{variable(1, "x", 1, 4), variable(2, "x"), binding(impl.BindingMacro, 3, "y", 1, 4)}
	cases := []struct {
		b    impl.Binding
		want bool
	}{
		{variable(1, "x", 1, 4), false}, {variable(9, "x", 1, 4), false}, {binding(impl.BindingForm, 1, "x", 1, 4), false}, {variable(9, "x"), false}, {impl.Binding{Text: "x", Scopes: []int{}, Kind: 3}, false}, {variable(9, "y", 1, 4), false},
		{variable(1, "x", 1), true}, {variable(1, "x", 4), true}, {variable(1, "x", 1, 4, 5), true}, {variable(1, "x", 1, 5), true}, {variable(1, "x", 14), true}, {variable(1, "z", 1, 4), true}, {variable(1, "xx", 1, 4), true}, {variable(2, "y"), true},
	}
	for _, c := range cases {
		want := list
		if c.want {
			want = append(slices.Clone(list), c.b)
		}
		if got, ok := impl.AddBinding(list, c.b); ok != c.want || !sameBindings(got, want) {
			t.Errorf("AddBinding of %s = %s, %v", showBindings(c.b), showBindings(got...), ok)
		}
	}
}

func TestAddBindingUpToTheLimit(t *testing.T) {
	var list []impl.Binding
	for i, b := range manyBindings(1001) {
		got, ok := impl.AddBinding(list, b)
		if ok != (i < 1000) || len(got) != min(i+1, 1000) || !sameBindings(got[:len(list)], list) {
			t.Fatalf("AddBinding of the binding %d = %s, %v", i, showBindings(got...), ok)
		}
		list = got
	}
	if !sameBindings(list, manyBindings(1000)) {
		t.Errorf("the bindings that were added are %s", showBindings(list...))
	}
}

func TestAddBindingToAnyList(t *testing.T) {
	g := generator(45)
	for range 10000 {
		list, b := g.bindings(8), g.strangeBinding()
		longer := append(slices.Clone(list), b)
		want, good := list, areGoodBindings(longer)
		if good {
			want = longer
		}
		if got, ok := impl.AddBinding(list, b); ok != good || !sameBindings(got, want) {
			t.Fatalf("AddBinding(%s, %s) = %s, %v", showBindings(list...), showBindings(b), showBindings(got...), ok)
		}
	}
}

func TestEqualBindings(t *testing.T) {
	different := []impl.Binding{
		{}, {Text: "x"}, {Scopes: []int{1}}, {Kind: 1}, {Number: 1}, {Text: "\xff", Kind: leastInt, Number: greatestInt, Scopes: []int{2, 1}}, variable(1, "x"), variable(2, "x"), variable(1, "y"), binding(impl.BindingMacro, 1, "x"),
		variable(1, "x", 1), variable(1, "x", 2), variable(1, "x", 1, 2), variable(1, "x", 2, 1), variable(1, "x", 1, 1), variable(1, "x", 0), variable(1, "x", everyScope()...), variable(1, "x", everyScope()[1:]...), binding(-3, 1, "x"), variable(-1, "x"),
	}
	lists := [][]impl.Binding{nil, different, different[1:], different[:5], append(slices.Clone(different[1:]), different[0]), manyBindings(1000), manyBindings(1001), manySets(1001, "x")}
	for _, b := range different {
		lists = append(lists, []impl.Binding{b}, []impl.Binding{b, {}}, []impl.Binding{variable(7, "z"), b, b})
	}
	for i, a := range lists {
		for j, b := range lists {
			if got := impl.EqualBindings(a, bindingsWithSpare(b)); got != (i == j) {
				t.Errorf("EqualBindings(%s, %s) = %v", showBindings(a...), showBindings(b...), got)
			}
		}
	}
	if !impl.EqualBindings(nil, []impl.Binding{}) || !impl.EqualBindings([]impl.Binding{{}}, []impl.Binding{{Scopes: []int{}}}) {
		t.Error("EqualBindings tells a nil slice from an empty one")
	}
}

func TestFormatBinding(t *testing.T) {
	cases := []struct {
		b    impl.Binding
		want string
	}{
		{variable(3, "x", 1, 4), "x{1,4} variable 3"}, {variable(3, "x"), "x variable 3"}, {variable(0, "x", 7), "x{7} variable 0"}, {impl.Binding{Text: "x", Scopes: []int{}, Kind: impl.BindingVariable}, "x variable 0"},
		{binding(impl.BindingForm, 0, "quote"), "quote form 0"}, {binding(impl.BindingForm, 11, "local", 2), "local{2} form 11"}, {binding(impl.BindingForm, 10, "a", 1, 2, 3), "a{1,2,3} form 10"},
		{binding(impl.BindingPrimitive, 0, "+"), "+ primitive 0"}, {binding(impl.BindingPrimitive, 13, "display", 99999), "display{99999} primitive 13"}, {binding(impl.BindingPrimitive, 4, "<", 10, 20, 300), "<{10,20,300} primitive 4"},
		{binding(impl.BindingMacro, 99999, "...", 5, 6), "...{5,6} macro 99999"}, {binding(impl.BindingMacro, 1, "while"), "while macro 1"}, {binding(impl.BindingMacro, 12345, "-", 50000), "-{50000} macro 12345"}, {variable(99999, strings.Repeat("z", 16)), strings.Repeat("z", 16) + " variable 99999"},
	}
	for _, c := range cases {
		if got := impl.FormatBinding(c.b); got != c.want {
			t.Errorf("FormatBinding(%s) = %q, want %q", showBindings(c.b), got, c.want)
		}
	}
	for _, b := range badBindings() {
		if got := impl.FormatBinding(b); got != "" {
			t.Errorf("FormatBinding(%s) = %.100q, want the empty string", showBindings(b), got)
		}
	}
}

func TestFormatBindingOfAnyBinding(t *testing.T) {
	g := generator(47)
	valid := 0
	for range 20000 {
		b := g.strangeBinding()
		want := ""
		if isGoodBinding(b) {
			valid++
			want = impl.FormatSyntax(identifier(b.Text, b.Scopes...)) + " " + kindsOfBindings[b.Kind-1].word + " " + impl.FormatNumber(b.Number)
		}
		if got := impl.FormatBinding(b); got != want || impl.IsBinding(b) != (want != "") {
			t.Fatalf("FormatBinding(%s) = %q, want %q", showBindings(b), got, want)
		}
	}
	if valid < 5000 || valid > 19000 {
		t.Errorf("%d of 20000 bindings are valid", valid)
	}
}
