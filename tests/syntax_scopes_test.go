package tests

import (
	"testing"

	"loop.example/g03220/impl"
)

// numbers are scopes and what is none, at and around the edges.
var numbers = []int{leastInt, leastInt + 1, -impl.MaxScope, -3, -2, -1, 0, 1, 2, 3, 4, 5, 6, 7, 9, impl.MaxScope - 1, impl.MaxScope, impl.MaxScope + 1, greatestInt - 1, greatestInt}

var noScopes = []int{leastInt, leastInt + 1, -impl.MaxScope, -3, -2, -1, 0, impl.MaxScope + 1, impl.MaxScope + 2, greatestInt - 1, greatestInt}

var noSets = [][]int{
	{0}, {-1}, {leastInt}, {impl.MaxScope + 1}, {greatestInt}, {1, 1}, {2, 1}, {3, 3}, {1, 2, 2}, {1, 1, 2}, {1, 3, 2}, {2, 1, 3}, {3, 2, 1},
	{0, 1, 2}, {-1, 1, 2}, {leastInt, 1}, {-2, -1}, {-1, 0}, {1, 0}, {1, 2, 0}, {1, 2, -1}, {1, leastInt}, {1, 2, impl.MaxScope + 1}, {1, 2, greatestInt},
	{impl.MaxScope, impl.MaxScope}, {impl.MaxScope, impl.MaxScope + 1}, {impl.MaxScope + 1, 1}, {impl.MaxScope, 1}, {1, impl.MaxScope + 1, 2}, {3, 6, 9, 6}, {6, 3},
}

// universe and the sets of its elements, by the bits of a number, are the
// model with which the functions on sets are compared.
var universe = []int{1, 2, 3, 4, 6, 9, impl.MaxScope - 1, impl.MaxScope}

const usesInUniverse = 1<<2 | 1<<4 | 1<<5 | 1<<7

func setOf(bits int) []int {
	var set []int
	for i, n := range universe {
		if bits>>i&1 == 1 {
			set = append(set, n)
		}
	}
	return set
}

func everyScope() []int {
	all := make([]int, impl.MaxScope)
	for i := range all {
		all[i] = i + 1
	}
	return all
}

func TestKindOfScope(t *testing.T) {
	cases := map[int]int{
		1: impl.ScopeBinding, 2: impl.ScopeIntroduction, 3: impl.ScopeUse, 4: impl.ScopeBinding, 5: impl.ScopeIntroduction, 6: impl.ScopeUse,
		impl.MaxScope - 2: impl.ScopeBinding, impl.MaxScope - 1: impl.ScopeIntroduction, impl.MaxScope: impl.ScopeUse,
	}
	for n, want := range cases {
		if got := impl.KindOfScope(n); got != want {
			t.Errorf("KindOfScope(%d) = %d, want %d", n, got, want)
		}
	}
	for _, n := range noScopes {
		if got := impl.KindOfScope(n); got != 0 {
			t.Errorf("KindOfScope(%d) = %d, want 0", n, got)
		}
	}
	for n := 4; n <= impl.MaxScope; n++ {
		if impl.KindOfScope(n) != impl.KindOfScope(n-3) {
			t.Fatalf("KindOfScope(%d) = %d", n, impl.KindOfScope(n))
		}
	}
}

func TestIsScopeSet(t *testing.T) {
	for _, set := range [][]int{nil, {}, {1}, {2}, {3}, {impl.MaxScope}, {1, 2}, {1, impl.MaxScope}, {2, 5, 8}, everyScope()} {
		if !impl.IsScopeSet(set) {
			t.Errorf("IsScopeSet(%.20v) = false", set)
		}
	}
	for bits := range 1 << len(universe) {
		if !impl.IsScopeSet(setOf(bits)) {
			t.Errorf("IsScopeSet(%v) = false", setOf(bits))
		}
	}
	for _, list := range noSets {
		if impl.IsScopeSet(list) {
			t.Errorf("IsScopeSet(%v) = true", list)
		}
	}
	for _, n := range noScopes {
		if impl.IsScopeSet([]int{n}) || impl.IsScopeSet([]int{n, 1}) || impl.IsScopeSet([]int{1, n}) || impl.IsScopeSet([]int{1, n, impl.MaxScope}) {
			t.Errorf("a list with %d is a set", n)
		}
	}
	if impl.IsScopeSet(append(everyScope(), impl.MaxScope)) || impl.IsScopeSet(append(everyScope(), impl.MaxScope+1)) {
		t.Error("IsScopeSet of more than all scopes is true")
	}
}

func TestHasScope(t *testing.T) {
	lists := append([][]int{nil, {}, {5}, {1, 2, 3}, {-3, leastInt, greatestInt, 0}}, noSets...)
	for _, list := range lists {
		elements := map[int]bool{}
		for _, n := range list {
			elements[n] = true
		}
		for _, n := range numbers {
			if got := impl.HasScope(list, n); got != elements[n] {
				t.Errorf("HasScope(%v, %d) = %v", list, n, got)
			}
		}
	}
	all := everyScope()
	if !impl.HasScope(all, 1) || !impl.HasScope(all, 50000) || !impl.HasScope(all, impl.MaxScope) || impl.HasScope(all, 0) || impl.HasScope(all, impl.MaxScope+1) {
		t.Error("HasScope of the set of all scopes is wrong")
	}
}

func TestSetsBehaveAsSets(t *testing.T) {
	for bits := range 1 << len(universe) {
		set := setOf(bits)
		for i, n := range universe {
			if got := impl.HasScope(set, n); got != (bits>>i&1 == 1) {
				t.Errorf("HasScope(%v, %d) = %v", set, n, got)
			}
			if got := impl.WithScope(set, n); !sameInts(got, setOf(bits|1<<i)) {
				t.Errorf("WithScope(%v, %d) = %v", set, n, got)
			}
			if got := impl.FlippedScope(set, n); !sameInts(got, setOf(bits^1<<i)) {
				t.Errorf("FlippedScope(%v, %d) = %v", set, n, got)
			}
		}
		if got := impl.WithoutUses(set); !sameInts(got, setOf(bits&^usesInUniverse)) {
			t.Errorf("WithoutUses(%v) = %v", set, got)
		}
		for other := range 1 << len(universe) {
			if got := impl.IsSubset(set, setOf(other)); got != (bits&^other == 0) {
				t.Errorf("IsSubset(%v, %v) = %v", set, setOf(other), got)
			}
		}
	}
}

func TestChangesOfSets(t *testing.T) {
	cases := []struct {
		set           []int
		n             int
		with, flipped []int
	}{
		{nil, 1, []int{1}, []int{1}}, {[]int{}, impl.MaxScope, []int{impl.MaxScope}, []int{impl.MaxScope}},
		{[]int{5, 9}, 1, []int{1, 5, 9}, []int{1, 5, 9}}, {[]int{5, 9}, 7, []int{5, 7, 9}, []int{5, 7, 9}}, {[]int{5, 9}, 10, []int{5, 9, 10}, []int{5, 9, 10}},
		{[]int{5, 9}, 5, []int{5, 9}, []int{9}}, {[]int{5, 9}, 9, []int{5, 9}, []int{5}}, {[]int{5, 7, 9}, 7, []int{5, 7, 9}, []int{5, 9}}, {[]int{5}, 5, []int{5}, nil},
		{[]int{1}, impl.MaxScope, []int{1, impl.MaxScope}, []int{1, impl.MaxScope}}, {[]int{1, impl.MaxScope}, impl.MaxScope, []int{1, impl.MaxScope}, []int{1}},
	}
	for _, c := range cases {
		if got := impl.WithScope(c.set, c.n); !sameInts(got, c.with) {
			t.Errorf("WithScope(%v, %d) = %v, want %v", c.set, c.n, got, c.with)
		}
		if got := impl.FlippedScope(c.set, c.n); !sameInts(got, c.flipped) {
			t.Errorf("FlippedScope(%v, %d) = %v, want %v", c.set, c.n, got, c.flipped)
		}
		if got := impl.FlippedScope(impl.FlippedScope(c.set, c.n), c.n); !sameInts(got, c.set) {
			t.Errorf("flipping %d in %v twice gives %v", c.n, c.set, got)
		}
	}
	uses := []struct{ set, want []int }{
		{nil, nil}, {[]int{}, nil}, {[]int{1, 2, 4, 5}, []int{1, 2, 4, 5}}, {[]int{3}, nil}, {[]int{3, 6, 9, impl.MaxScope}, nil},
		{[]int{1, 3, 5}, []int{1, 5}}, {[]int{3, 4, 6}, []int{4}}, {[]int{2, 3, 6, 7, 9}, []int{2, 7}},
	}
	for _, c := range uses {
		if got := impl.WithoutUses(c.set); !sameInts(got, c.want) {
			t.Errorf("WithoutUses(%v) = %v, want %v", c.set, got, c.want)
		}
	}
}

func TestChangesOfTheLongestSet(t *testing.T) {
	all := everyScope()
	if got := impl.WithScope(all, 50000); !sameInts(got, all) {
		t.Error("WithScope changes the set of all scopes")
	}
	less := impl.FlippedScope(all, 50000)
	if len(less) != len(all)-1 || impl.HasScope(less, 50000) || !impl.IsSubset(less, all) || impl.IsSubset(all, less) {
		t.Error("FlippedScope does not remove one scope of all")
	}
	if got := impl.WithScope(less, 50000); !sameInts(got, all) {
		t.Error("WithScope does not add the scope again")
	}
	if got := impl.WithoutUses(all); len(got) != 2*impl.MaxScope/3 || !impl.IsScopeSet(got) {
		t.Errorf("WithoutUses keeps %d scopes of all", len(got))
	}
	if !impl.IsSubset(all, all) {
		t.Error("the set of all scopes is no subset of itself")
	}
}

func TestChangesOfInvalidSets(t *testing.T) {
	for _, list := range noSets {
		for _, n := range numbers {
			if got := impl.WithScope(list, n); !sameInts(got, list) {
				t.Errorf("WithScope(%v, %d) = %v, want it unchanged", list, n, got)
			}
			if got := impl.FlippedScope(list, n); !sameInts(got, list) {
				t.Errorf("FlippedScope(%v, %d) = %v, want it unchanged", list, n, got)
			}
		}
		if got := impl.WithoutUses(list); !sameInts(got, list) {
			t.Errorf("WithoutUses(%v) = %v, want it unchanged", list, got)
		}
	}
	for bits := range 1 << len(universe) {
		for _, n := range noScopes {
			set := setOf(bits)
			if with, flipped := impl.WithScope(set, n), impl.FlippedScope(set, n); !sameInts(with, set) || !sameInts(flipped, set) {
				t.Errorf("%v with %d is %v and flipped %v, want it unchanged", set, n, with, flipped)
			}
		}
	}
}

func TestIsSubset(t *testing.T) {
	cases := []struct {
		a, b []int
		want bool
	}{
		{nil, nil, true}, {nil, []int{}, true}, {[]int{}, nil, true}, {nil, []int{1}, true}, {[]int{1}, nil, false}, {[]int{1}, []int{}, false},
		{[]int{1, 5}, []int{1, 5}, true}, {[]int{1}, []int{1, 5}, true}, {[]int{5}, []int{1, 5}, true}, {[]int{1, 5}, []int{1}, false}, {[]int{1, 5}, []int{5}, false},
		{[]int{3}, []int{1, 5}, false}, {[]int{1, 3, 5}, []int{1, 5}, false}, {[]int{1, 5}, []int{1, 3, 5}, true}, {[]int{6}, []int{1, 5}, false}, {[]int{1, 2}, []int{3, 4}, false},
	}
	for _, c := range cases {
		if got := impl.IsSubset(c.a, c.b); got != c.want {
			t.Errorf("IsSubset(%v, %v) = %v", c.a, c.b, got)
		}
	}
	for _, list := range noSets {
		sets := [][]int{nil, {}, {1}, {1, 2}, {1, 2, 3}, everyScope(), list}
		for _, set := range sets {
			if impl.IsSubset(list, set) || impl.IsSubset(set, list) {
				t.Errorf("%v, which is no set, and %.20v are subsets", list, set)
			}
		}
	}
}
