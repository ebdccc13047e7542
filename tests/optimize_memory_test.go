package tests

import (
	"slices"
	"testing"

	"loop.example/g03220/impl"
)

// sampleTerms returns terms to which rules apply, and others, in slices with
// spare capacity.
func sampleTerms(t *testing.T, seed int) []impl.Core {
	t.Helper()
	g := generator(seed)
	cores := sampleCores(t, seed)
	for i := range 300 {
		cores = append(cores, g.obscured(g.core(1+i%3), 1+i%3), g.obscured(g.program(1+i%4), 2))
	}
	for _, s := range foldCases {
		cores = append(cores, term(t, s.source))
	}
	// Constants without items, but with a list that could take some.
	roomy := constant(impl.Datum{Items: make([]impl.Datum, 0, 4)})
	tooLong := node(impl.CoreSequence, append(constants(59), node(impl.CoreIf, roomy, node(impl.CoreSequence, called(roomy), roomy), roomy))...)
	cores = append(cores, roomy, node(impl.CoreIf, roomy, roomy, roomy), called(procedure(from(1, 2), called(useOf(1), useOf(1), useOf(2))), roomy, roomy), sequence(called(roomy), roomy, roomy), node(impl.CoreIf, useOf(1), tooLong, node(impl.CoreIf, roomy, tooLong, roomy)))
	return coresWithSpare(cores)
}

// someSimple returns terms that may be put in the place of variables, and others.
func someSimple() []impl.Core {
	return coresWithSpare([]impl.Core{constant(impl.Datum{Items: make([]impl.Datum, 0, 4)}), constant(symbol("a")), useOf(3), useOf(7), primitive(2), constant(list(number(1))), called(useOf(1))})
}

func TestOptimizedTermsAreNotModified(t *testing.T) {
	cores, same := sampleTerms(t, 269), sampleTerms(t, 269)
	simple, sameSimple := someSimple(), someSimple()
	boxed := scopesWithSpare([]int{4, 2, 3, 4})
	for i, c := range cores {
		for k, s := range simple {
			impl.SubstituteCore(c, i%4, s)
			if !sameCore(s, sameSimple[k]) || !spareCoreIsIntact(s) {
				t.Errorf("%s was modified", showCore(sameSimple[k]))
			}
		}
		impl.IsSimple(c, boxed)
		impl.FoldApplication(c)
		impl.SimplifyNode(c, boxed)
		impl.SimplifyNode(c, nil)
		impl.SimplifyCore(c)
		impl.OptimizeCore(c)
		if !sameCore(c, same[i]) || !spareCoreIsIntact(c) {
			t.Errorf("%s was modified", showCore(same[i]))
		}
	}
	if !sameInts(boxed, []int{4, 2, 3, 4}) || !spareScopesAreIntact(boxed) {
		t.Error("the list boxed was modified")
	}
}

func TestOptimizedTermsShareNoMemory(t *testing.T) {
	simplified := 0
	for i, c := range sampleTerms(t, 271) {
		seen := newCoreMemory()
		simple := someSimple()
		if seen.sharesCore(c) || seen.sharesCores(simple) {
			t.Fatal("the arguments share memory")
		}
		check := func(what string, results ...impl.Core) {
			t.Helper()
			for _, result := range results {
				if seen.sharesCore(result) {
					t.Errorf("the result of %s of %s shares memory", what, showCore(c))
				}
			}
		}
		for range 2 {
			s := simple[i%len(simple)]
			check("SubstituteCore", impl.SubstituteCore(c, 1, s), impl.SubstituteCore(c, 50, s))
			folded, _ := impl.FoldApplication(c)
			first, ok := impl.SimplifyNode(c, nil)
			second, _ := impl.SimplifyNode(c, []int{2})
			once, _ := impl.SimplifyCore(c)
			all, _ := impl.OptimizeCore(c)
			check("FoldApplication", folded)
			check("SimplifyNode", first, second)
			check("SimplifyCore", once)
			check("OptimizeCore", all)
			simplified += count(ok)
		}
	}
	if simplified < 300 {
		t.Errorf("a rule applies to %d terms only", simplified)
	}
}

// Parts that stand in several places of an argument are copied for each place,
// and so are arguments that are put in several places.
func TestPartsOfOptimizedTermsAreCopied(t *testing.T) {
	part := coresWithSpare([]impl.Core{node(impl.CoreApply, useOf(1), constant(impl.Datum{Items: make([]impl.Datum, 0, 4)}), constant(list(symbol("a"))))})[0]
	valid := node(impl.CoreIf, part, node(impl.CoreReset, part), part)
	invalid := node(impl.CoreIf, valid, valid, binder(77, from(1, 2), part, part), part)
	seen := newCoreMemory()
	if seen.sharesCore(part) {
		t.Fatal("the part shares memory with itself")
	}
	for _, c := range []impl.Core{valid, invalid, part, node(impl.CoreIf, constant(boolean(1)), valid, part), sequence(constant(number(1)), part, part), called(procedure([]int{9}, called(useOf(9), useOf(9), part, part)), constant(list()))} {
		simpler, _ := impl.SimplifyNode(c, nil)
		once, _ := impl.SimplifyCore(c)
		all, _ := impl.OptimizeCore(c)
		for _, result := range []impl.Core{simpler, once, all, impl.SubstituteCore(c, 1, constant(impl.Datum{Items: make([]impl.Datum, 0, 4)})), impl.SubstituteCore(c, 5, useOf(6)), impl.SubstituteCore(c, 1, part)} {
			if seen.sharesCore(result) {
				t.Errorf("%s, a result for %s, shares memory", showCore(result), showCore(c))
			}
		}
	}
}

func TestOptimizedUnitsShareNoMemory(t *testing.T) {
	sample := func() [][]impl.Unit {
		g := generator(277)
		lists := [][]impl.Unit{units(t, "a;1 2;(begin (set! v1 '(1 2)) (if '() v2 1))", "b;3;((lambda (v4) (v4 v4)) '())", "c;;'(1 2)"), units(t, "a;;v1"), nil}
		for range 400 {
			lists = append(lists, g.anyUnits())
		}
		return lists
	}
	lists, same := sample(), sample()
	optimized := 0
	for i, list := range lists {
		list = unitsWithSpare(list)
		before, beforeUnits := newCoreMemory(), map[*impl.Unit]bool{}
		shares := func(list []impl.Unit) bool {
			all := list[:cap(list)]
			for k := range all {
				if beforeUnits[&all[k]] || before.sharesScopes(all[k].Globals) || before.sharesCore(all[k].Body) {
					return true
				}
				beforeUnits[&all[k]] = true
			}
			return false
		}
		if shares(list) {
			t.Fatal("the argument shares memory with itself")
		}
		for range 2 {
			result, _ := impl.OptimizeUnits(list)
			optimized += len(result)
			if shares(result) {
				t.Errorf("the result of OptimizeUnits(%s) shares memory", showUnits(list))
			}
		}
		if !sameUnits(list, same[i]) || !spareUnitsAreIntact(list) {
			t.Errorf("%s were modified", showUnits(same[i]))
		}
	}
	if optimized < 500 {
		t.Errorf("only %d units are optimized", optimized)
	}
}

func TestOptimizeTermsWithEmptySlices(t *testing.T) {
	g := generator(283)
	for i := range 500 {
		c := g.obscured(g.core(1+i%3), 2)
		other := withEmptySlices(c)
		checkPass(t, other, first(impl.SimplifyCore(c)), second(impl.SimplifyCore(c)))
		checkOptimized(t, other, first(impl.OptimizeCore(c)), second(impl.OptimizeCore(c)))
		checkNode(t, other, []int{}, first(impl.SimplifyNode(c, nil)))
		checkFold(t, other, first(impl.FoldApplication(c)))
		checkSimple(t, other, []int{}, impl.IsSimple(c, nil))
		checkSubstitute(t, other, i%4, withEmptySlices(constant(list())), impl.SubstituteCore(c, i%4, constant(list())))
	}
	for _, list := range [][]impl.Unit{{unit("a", []int{}, withEmptySlices(applied("+", constants(2)...)))}, {unit("a", nil, applied("+", constants(2)...))}} {
		checkUnitsOptimized(t, list, []impl.Unit{unit("a", nil, constant(number(1)))}, 1)
	}
}

func first[A, B any](a A, _ B) A { return a }

func second[A, B any](_ A, b B) B { return b }

// The result of one call does not depend on those before it.
func TestOptimizationsAreIndependent(t *testing.T) {
	g := generator(281)
	var cores, results []impl.Core
	for i := range 300 {
		cores = append(cores, g.obscured(g.core(2+i%3), 2))
		result, _ := impl.OptimizeCore(cores[i])
		results = append(results, result)
	}
	for i, c := range slices.Backward(cores) {
		if got, _ := impl.OptimizeCore(c); !sameCore(got, results[i]) {
			t.Errorf("OptimizeCore(%s) = %s, and later %s", showTerm(c), showTerm(results[i]), showTerm(got))
		}
	}
}
