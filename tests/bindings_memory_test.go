package tests

import (
	"testing"

	"loop.example/g03220/impl"
)

// sampleBindings returns lists, valid and not, in slices with spare capacity.
func sampleBindings(seed int) [][]impl.Binding {
	g := generator(seed)
	lists := append(goodLists(), badLists()...)
	for range 200 {
		list := g.bindings(10)
		lists = append(lists, list, append(list[:len(list):len(list)], g.strangeBinding()))
	}
	for i, list := range lists {
		lists[i] = bindingsWithSpare(list)
	}
	return lists
}

func sampleIdentifiers() []impl.Syntax {
	return formsWithSpare([]impl.Syntax{
		identifier("x"), identifier("x", 1, 4), identifier("a", setOf(255)...), identifier("b", 1, 2), identifier("if", 3), identifier("v0"), identifier("x", 2, 1), form(identifier("x")), identifier("none", 1),
	})
}

func TestBindingsAreNotModified(t *testing.T) {
	lists, same := sampleBindings(55), sampleBindings(55)
	ids, sameIds := sampleIdentifiers(), sampleIdentifiers()
	added := bindingsWithSpare([]impl.Binding{variable(1, "new", 1, 2), variable(1, "x"), variable(1, "A", 1), variable(1, "x", 2, 1), binding(9, 1, "x")})
	sameAdded := bindingsWithSpare(added)
	for i, list := range lists {
		impl.AreBindings(list)
		impl.EqualBindings(list, lists[0])
		impl.EqualBindings(lists[len(lists)-1], list)
		for _, b := range added {
			impl.AddBinding(list, b)
		}
		for _, b := range list[:min(len(list), 30)] {
			impl.IsBinding(b)
			impl.FormatBinding(b)
			impl.AddBinding(list, b)
		}
		for _, id := range ids {
			impl.Candidates(list, id)
			impl.Resolve(list, id)
			impl.SameMeaning(list, id, ids[0])
			impl.SameMeaning(list, ids[1], id)
		}
		if !sameBindings(list, same[i]) || !spareBindingsAreIntact(list) {
			t.Errorf("%s was modified", showBindings(same[i]...))
		}
	}
	if !sameForms(ids, sameIds) || !spareFormsAreIntact(ids) || !sameBindings(added, sameAdded) || !spareBindingsAreIntact(added) {
		t.Error("an identifier or a binding that is added was modified")
	}
}

func TestBindingsShareNoMemory(t *testing.T) {
	added := bindingsWithSpare([]impl.Binding{variable(1, "new", 1, 2), variable(1, "x", 1), variable(1, "A", 1), variable(1, "x", 2, 1)})
	ids := sampleIdentifiers()
	for _, list := range sampleBindings(57) {
		seen := newBindingMemory()
		if seen.sharesForms(ids) || seen.sharesBindings(added) {
			t.Fatal("the arguments share memory")
		}
		seen.sharesBindings(list)
		for _, b := range added {
			first, _ := impl.AddBinding(list, b)
			second, _ := impl.AddBinding(list, b)
			if seen.sharesBindings(first) || seen.sharesBindings(second) {
				t.Errorf("the results of AddBinding(%s, %s) share memory", showBindings(list...), showBindings(b))
			}
		}
		for _, id := range ids {
			if seen.sharesBindings(impl.Candidates(list, id)) || seen.sharesBindings(impl.Candidates(list, id)) {
				t.Errorf("the results of Candidates(%s, %s) share memory", showBindings(list...), showForm(id))
			}
			first, _ := impl.Resolve(list, id)
			second, _ := impl.Resolve(list, id)
			if seen.sharesScopes(first.Scopes) || seen.sharesScopes(second.Scopes) {
				t.Errorf("the results of Resolve(%s, %s) share memory", showBindings(list...), showForm(id))
			}
		}
	}
}

// Bindings whose sets share memory do not share it in the results.
func TestResultsOfSharedSetsShareNoMemory(t *testing.T) {
	set := scopesWithSpare([]int{1, 4, 7})
	list := []impl.Binding{variable(1, "x", set...), variable(2, "y", set...), variable(3, "x", set[:2]...), variable(4, "x", set[:1]...)}
	b := variable(5, "z", set...)
	id := identifier("x", set...)
	seen := newBindingMemory()
	seen.sharesScopes(set)
	for range 2 {
		added, ok := impl.AddBinding(list, b)
		again, twice := impl.AddBinding(list, list[1])
		if !ok || twice || seen.sharesBindings(added) || seen.sharesBindings(again) {
			t.Error("the results of AddBinding share memory")
		}
		if got := impl.Candidates(list, id); len(got) != 3 || seen.sharesBindings(got) {
			t.Error("the results of Candidates share memory")
		}
		if got, code := impl.Resolve(list, id); code != impl.ResolveFound || seen.sharesScopes(got.Scopes) {
			t.Error("the results of Resolve share memory")
		}
	}
	invalid := []impl.Binding{list[0], list[0], {Kind: 9, Scopes: set}}
	if got, ok := impl.AddBinding(invalid, b); ok || seen.sharesBindings(got) {
		t.Error("a list that is not valid is returned with its memory")
	}
	if !sameInts(set, []int{1, 4, 7}) || !spareScopesAreIntact(set) {
		t.Error("a set that bindings share was modified")
	}
}

func TestNamesAreNewMemory(t *testing.T) {
	for _, names := range []func() []string{impl.FormNames, impl.PrimitiveNames} {
		first := names()
		want := first[0]
		for i := range first[:cap(first)] {
			first[:cap(first)][i] = "changed"
		}
		second := names()
		if second[0] != want || second[len(second)-1] == "changed" {
			t.Error("two lists of names share memory")
		}
	}
	if !impl.IsBinding(binding(impl.BindingForm, 11, "x")) || impl.IsBinding(binding(impl.BindingForm, 12, "x")) {
		t.Error("a change of the names changes what is valid")
	}
	seen := newBindingMemory()
	for range 3 {
		if seen.sharesBindings(impl.CoreBindings()) {
			t.Error("two lists of core bindings share memory")
		}
	}
	first := impl.CoreBindings()
	for i := range first {
		first[i] = impl.Binding{}
	}
	if got := impl.CoreBindings(); got[0].Text != "quote" || got[25].Text != "display" {
		t.Error("a change of the core bindings changes those of another call")
	}
}
