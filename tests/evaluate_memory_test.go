package tests

import (
	"slices"
	"testing"

	"loop.example/g03220/impl"
)

// withMarks copies a list into a slice with spare capacity, behind which a mark
// shows whether it was written to.
func withMarks[T any](list []T, mark T) []T {
	result := append(make([]T, 0, len(list)+3), list...)
	for i := len(result); i < cap(result); i++ {
		result[:cap(result)][i] = mark
	}
	return result
}

func marksAreIntact[T comparable](list []T, mark T) bool {
	return !slices.ContainsFunc(list[len(list):cap(list)], func(x T) bool { return x != mark })
}

var markedValue = impl.Value{Kind: 77, Text: "spare"}

var markedPair = impl.Pair{Head: markedValue, Tail: markedValue}

// elementsOf returns the places of all elements of a slice, and of its spare
// capacity.
func elementsOf[T any](list []T) map[*T]bool {
	places := map[*T]bool{}
	all := list[:cap(list)]
	for i := range all {
		places[&all[i]] = true
	}
	return places
}

func haveCommonElement[T any](lists ...[]T) bool {
	seen := map[*T]bool{}
	for _, list := range lists {
		for place := range elementsOf(list) {
			if seen[place] {
				return true
			}
			seen[place] = true
		}
	}
	return false
}

// samplePairs returns pairs that are valid, and others.
func samplePairs() [][]impl.Pair {
	return [][]impl.Pair{nil, chain(1), chain(5), doubling(7), chain(1996), chain(2000), chain(2001), {{Head: pair(0)}}, {{}, {Tail: truth(2)}}, {{Head: pair(1)}, {Head: num(1)}}}
}

func TestValuesAreNotModified(t *testing.T) {
	g := generator(43)
	data, same := sampleValueData(47), sampleValueData(47)
	for i, d := range data {
		for _, sample := range samplePairs() {
			if len(sample) > 100 && i%20 > 0 {
				continue
			}
			pairs := withMarks(sample, markedPair)
			_, all, _ := impl.ValueOf(d, pairs)
			_, again, _ := impl.ValueOf(d, pairs)
			if haveCommonElement(pairs, all, again) {
				t.Errorf("the results of ValueOf(%.200s) with %d pairs share memory", show(d), len(pairs))
			}
			impl.ArePairs(pairs)
			v := g.value(len(sample))
			impl.IsValue(v, pairs)
			impl.FormatValue(v, pairs)
			args := withMarks([]impl.Value{v, g.value(len(sample))}[:1+g.below(2)], markedValue)
			before := slices.Clone(args)
			for n := range 15 {
				impl.ApplyPrimitive(n, args, pairs)
			}
			if !slices.Equal(args, before) || !marksAreIntact(args, markedValue) {
				t.Errorf("the arguments %v were modified", before)
			}
			if !samePairs(pairs, sample) || !marksAreIntact(pairs, markedPair) {
				t.Errorf("%d pairs were modified for %.200s", len(pairs), show(d))
			}
		}
		if !sameDatum(d, same[i]) || !spareIsIntact(d.Items) {
			t.Errorf("%.200s was modified", show(same[i]))
		}
	}
}

// sampleValueData returns data, valid and not, in slices with spare capacity.
func sampleValueData(seed int) []impl.Datum {
	g := generator(seed)
	data := []impl.Datum{nested(20), nested(21), list(atoms(4)...), list(atoms(5)...), list(atoms(599)...), list(atoms(600)...)}
	for range 100 {
		data = append(data, g.datum(3), g.strange(2))
	}
	return cloneWithSpare(data)
}

// What ValueOf returns unchanged is a copy, too.
func TestUnchangedPairsAreCopied(t *testing.T) {
	for _, sample := range samplePairs() {
		for _, d := range []impl.Datum{number(1), list(), list(number(1)), list(atoms(599)...), symbol("A"), list(symbol("A"))} {
			pairs := withMarks(sample, markedPair)
			_, all, _ := impl.ValueOf(d, pairs)
			if haveCommonElement(pairs, all) {
				t.Errorf("the result of ValueOf(%.100s) with %d pairs shares memory", show(d), len(pairs))
			}
			for i := range all {
				all[i] = markedPair
			}
			if !samePairs(pairs, sample) {
				t.Errorf("%d pairs were modified for %.100s", len(pairs), show(d))
			}
		}
	}
}

func TestEvaluatedTermsAreNotModified(t *testing.T) {
	seeds := func() []impl.Core {
		g := generator(53)
		cores := sampleCores(t, 59)
		for i := range 300 {
			cores = append(cores, g.program(2+i%4))
		}
		for range 20 {
			for _, l := range g.laws() {
				cores = append(cores, l.left)
			}
		}
		return coresWithSpare(cores)
	}
	cores, same := seeds(), seeds()
	outputs := 0
	for i, c := range cores {
		for _, budget := range []int{-1, 0, 60, 5001} {
			x, again := impl.EvaluateCore(c, budget), impl.EvaluateCore(c, budget)
			if !sameOutcome(x, again) || haveCommonElement(x.Output, again.Output) {
				t.Errorf("the outcomes of %s are not the same, or share memory", showTerm(c))
			}
			outputs += len(x.Output)
		}
		if !sameCore(c, same[i]) || !spareCoreIsIntact(c) {
			t.Errorf("%s was modified", showCore(same[i]))
		}
	}
	if outputs < 100 {
		t.Errorf("only %d elements of output", outputs)
	}
}

func TestEvaluatedUnitsAreNotModified(t *testing.T) {
	sample := func() [][]impl.Unit {
		g := generator(61)
		lists := [][]impl.Unit{units(t, "a;1;(set! v1 '(a (b)))", "b;2 3;(begin (display v1) (set! v2 (lambda (v4) v4)) (v2 v1))", "c;;(reset (cons 1 (shift v5 (v5 v2))))"), units(t, "a;;v1")}
		for range 300 {
			lists = append(lists, g.anyUnits())
		}
		return lists
	}
	lists, same := sample(), sample()
	for i, list := range lists {
		list = slices.Grow(slices.Clone(list), 3)
		for j, u := range list {
			list[j].Body, list[j].Globals = coresWithSpare([]impl.Core{u.Body})[0], scopesWithSpare(u.Globals)
		}
		spare := list[len(list) : len(list)+1]
		spare[0].Name = "spare"
		x, again := impl.EvaluateProgram(list, 100), impl.EvaluateProgram(list, 100)
		if !sameOutcome(x, again) || haveCommonElement(x.Output, again.Output) {
			t.Errorf("the outcomes of %s are not the same, or share memory", showUnits(list))
		}
		for _, u := range list {
			if !spareCoreIsIntact(u.Body) || !spareScopesAreIntact(u.Globals) {
				t.Errorf("%s was modified", showUnits(same[i]))
			}
		}
		if !sameUnits(list, same[i]) || spare[0].Name != "spare" {
			t.Errorf("%s was modified", showUnits(same[i]))
		}
	}
}

func TestOutcomesAreNotModified(t *testing.T) {
	for _, output := range [][]string{nil, {}, {"a"}, {"a", "b", ""}} {
		x := ended(impl.StatusDone, "7", 1, 2)
		x.Output = withMarks(output, "spare")
		y := x
		y.Output = withMarks(output, "spare")
		impl.EqualOutcomes(x, y)
		impl.FormatOutcome(x)
		if !slices.Equal(x.Output, output) || !marksAreIntact(x.Output, "spare") || !marksAreIntact(y.Output, "spare") {
			t.Errorf("the output %q was modified", output)
		}
	}
}

// The outcome of one evaluation does not depend on those before it.
func TestEvaluationsAreIndependent(t *testing.T) {
	g := generator(67)
	var terms []impl.Core
	var outcomes []impl.Outcome
	for i := range 200 {
		terms = append(terms, g.program(2+i%4))
		outcomes = append(outcomes, impl.EvaluateCore(terms[i], 300))
	}
	for i := range terms {
		last := len(terms) - 1 - i
		if got := impl.EvaluateCore(terms[last], 300); !sameOutcome(got, outcomes[last]) {
			t.Errorf("EvaluateCore(%s) = %s, and later %s", showTerm(terms[last]), showOutcome(outcomes[last]), showOutcome(got))
		}
	}
}
