package tests

import (
	"testing"

	"loop.example/g03220/impl"
)

// coresWithSpare copies into slices with spare capacity, behind which a marker
// shows whether it was written to.
func coresWithSpare(cores []impl.Core) []impl.Core {
	result := make([]impl.Core, 0, len(cores)+2)
	for _, c := range cores {
		c.Params, c.Datum.Items, c.Kids = scopesWithSpare(c.Params), cloneWithSpare(c.Datum.Items), coresWithSpare(c.Kids)
		result = append(result, c)
	}
	spare := result[:cap(result)]
	for i := len(result); i < len(spare); i++ {
		spare[i] = impl.Core{Kind: 77, Number: 77}
	}
	return result
}

func spareCoreIsIntact(c impl.Core) bool {
	return spareScopesAreIntact(c.Params) && spareIsIntact(c.Datum.Items) && spareCoresAreIntact(c.Kids)
}

func spareCoresAreIntact(cores []impl.Core) bool {
	for i, c := range cores[:cap(cores)] {
		if i < len(cores) && !spareCoreIsIntact(c) {
			return false
		}
		if i >= len(cores) && !sameCore(c, impl.Core{Kind: 77, Number: 77}) {
			return false
		}
	}
	return true
}

// coreMemory is what was seen of terms, and of what they have.
type coreMemory struct {
	memory
	cores map[*impl.Core]bool
}

func newCoreMemory() coreMemory { return coreMemory{newMemory(), map[*impl.Core]bool{}} }

// sharesCore reports whether an element of a slice within c, or of its spare
// capacity, was seen before; it adds all of them to those seen.
func (m coreMemory) sharesCore(c impl.Core) bool {
	return m.sharesScopes(c.Params) || m.sharesDatum(c.Datum) || m.sharesCores(c.Kids)
}

func (m coreMemory) sharesCores(cores []impl.Core) bool {
	all := cores[:cap(cores)]
	for i := range all {
		if m.cores[&all[i]] || m.sharesCore(all[i]) {
			return true
		}
		m.cores[&all[i]] = true
	}
	return false
}

// sampleCores returns terms, valid and not, in slices with spare capacity.
func sampleCores(t *testing.T, seed int) []impl.Core {
	t.Helper()
	g := generator(seed)
	var cores []impl.Core
	for _, good := range goodCores(t) {
		cores = append(cores, good.c)
	}
	for _, c := range badCores(t) {
		if impl.DepthOfCore(c) < 1000 && impl.DepthOf(c.Datum) < 1000 {
			cores = append(cores, c)
		}
	}
	for range 300 {
		c := g.core(3)
		cores = append(cores, c, g.change(c), g.anyCore(3))
	}
	return coresWithSpare(cores)
}

var someFirsts = []int{-1, 0, 5, 10, 20000, impl.MaxVariable, impl.MaxVariable + 1}

func TestCoresAreNotModified(t *testing.T) {
	cores, same := sampleCores(t, 113), sampleCores(t, 113)
	globals := scopesWithSpare([]int{4, 2, 3, 1})
	for i, c := range cores {
		other := cores[(i*7+1)%len(cores)]
		impl.SizeOfCore(c)
		impl.DepthOfCore(c)
		impl.EqualCores(c, other)
		impl.FreeVariables(c)
		impl.BoundVariables(c)
		impl.BoxedVariables(c)
		impl.IsCore(c, globals)
		impl.IsCore(c, c.Params)
		impl.AlphaEqual(c, other)
		impl.AlphaEqual(c, c)
		for _, first := range someFirsts {
			impl.RenumberCore(c, first)
		}
		impl.UnparseCore(c)
		impl.FormatCore(c)
		if !sameCore(c, same[i]) || !spareCoreIsIntact(c) {
			t.Errorf("%s was modified", showCore(same[i]))
		}
	}
	if !sameInts(globals, []int{4, 2, 3, 1}) || !spareScopesAreIntact(globals) {
		t.Error("the globals were modified")
	}
}

func TestReadDataAreNotModified(t *testing.T) {
	data, same := sampleCoreData(t, 127), sampleCoreData(t, 127)
	for i, d := range data {
		impl.ReadCore(d)
		if !sameDatum(d, same[i]) || !spareIsIntact(d.Items) {
			t.Errorf("%s was modified", show(same[i]))
		}
	}
}

// sampleCoreData returns data of terms, and others that are nearly one.
func sampleCoreData(t *testing.T, seed int) []impl.Datum {
	t.Helper()
	g := generator(seed)
	var data []impl.Datum
	for _, good := range goodCores(t) {
		data = append(data, describedDatum(good.c))
	}
	for range 500 {
		d := describedDatum(g.core(3))
		data = append(data, d, g.nearDatum(d), g.datum(3), g.strange(3))
	}
	return cloneWithSpare(data)
}

func TestCoresShareNoMemory(t *testing.T) {
	for _, c := range sampleCores(t, 131) {
		seen := newCoreMemory()
		if seen.sharesCore(c) {
			t.Fatal("the argument shares memory with itself")
		}
		for range 2 {
			if seen.sharesScopes(impl.FreeVariables(c)) || seen.sharesScopes(impl.BoundVariables(c)) || seen.sharesScopes(impl.BoxedVariables(c)) {
				t.Errorf("the variables of %s share memory", showCore(c))
			}
			for _, first := range someFirsts {
				if got, _ := impl.RenumberCore(c, first); seen.sharesCore(got) {
					t.Errorf("the result of RenumberCore(%s, %d) shares memory", showCore(c), first)
				}
			}
			if seen.sharesDatum(impl.UnparseCore(c)) {
				t.Errorf("the result of UnparseCore(%s) shares memory", showCore(c))
			}
		}
	}
}

func TestReadCoresShareNoMemory(t *testing.T) {
	found := 0
	for _, d := range sampleCoreData(t, 137) {
		seen := newCoreMemory()
		if seen.sharesDatum(d) {
			t.Fatal("the argument shares memory with itself")
		}
		for range 2 {
			c, ok := impl.ReadCore(d)
			if ok {
				found++
			}
			if seen.sharesCore(c) {
				t.Errorf("the result of ReadCore(%s) shares memory", show(d))
			}
		}
	}
	if found < 1000 {
		t.Errorf("only %d terms are read", found)
	}
}

// Parts that stand in several places of an argument are copied for each place.
func TestPartsOfCoresAreCopied(t *testing.T) {
	params := scopesWithSpare(nil)
	items := cloneWithSpare([]impl.Datum{symbol("a"), list(number(1))})
	shared := coresWithSpare([]impl.Core{constant(list()), node(impl.CoreApply, primitive(1), useOf(3)), within(2, useOf(2))})
	shared[0].Datum.Items = items
	part := binder(impl.CoreLambda, params, node(impl.CoreApply, shared...))
	valid := node(impl.CoreIf, part, part, node(impl.CoreReset, part))
	invalid := node(9, valid, binder(impl.CoreLambda, from(1, 3)[:3:3], shared...), valid)
	seen := newCoreMemory()
	if seen.sharesScopes(params) || seen.sharesCores(shared) {
		t.Fatal("the parts share memory")
	}
	for _, c := range []impl.Core{valid, invalid, part, binder(impl.CoreLocal, from(5, 2), part, part)} {
		for _, first := range someFirsts {
			if got, _ := impl.RenumberCore(c, first); seen.sharesCore(got) {
				t.Errorf("the result of RenumberCore(%s, %d) shares memory", showCore(c), first)
			}
		}
		if d := impl.UnparseCore(c); seen.sharesDatum(d) {
			t.Errorf("the result of UnparseCore(%s) shares memory", showCore(c))
		}
	}
	d := list(symbol("quote"), list(items...))
	twice := list(symbol("begin"), d, list(symbol("reset"), d), d)
	for range 2 {
		if c, ok := impl.ReadCore(twice); !ok || seen.sharesCore(c) {
			t.Errorf("the result of ReadCore(%s) shares memory", show(twice))
		}
	}
	if !sameData(items, []impl.Datum{symbol("a"), list(number(1))}) || !spareIsIntact(items) || !spareCoresAreIntact(shared) {
		t.Error("a part was modified")
	}
}
