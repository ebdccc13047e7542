package tests

import (
	"testing"

	"loop.example/g03220/impl"
)

func TestVariablesOfCores(t *testing.T) {
	cases := []struct{ source, free, bound, boxed string }{
		{"1", "", "", ""}, {"'v1", "", "", ""}, {"'(set! v1 v2)", "", "", ""}, {"+", "", "", ""}, {"v7", "7", "", ""}, {"v0", "0", "", ""}, {"v-1", "-1", "", ""}, {"v100000", "100000", "", ""},
		{"(set! v3 1)", "3", "", "3"}, {"(set! v3 v3)", "3", "", "3"}, {"(set! v3 v4)", "3 4", "", "3"}, {"(set! v3 (set! v2 v1))", "3 2 1", "", "3 2"}, {"(set! v0 (set! v99999 v0))", "0 99999", "", "0 99999"}, {"(set! v-1 1)", "-1", "", "-1"},
		{"(v3 v1 v2)", "3 1 2", "", ""}, {"(v3 v1 v3 v1 v2)", "3 1 2", "", ""}, {"(if v5 v4 (begin v6 v4 v5 v3))", "5 4 6 3", "", ""}, {"((v2 v1) (v1 v3) v2 (v9))", "2 1 3 9", "", ""},
		{"(lambda (v1) v1)", "", "1", ""}, {"(lambda (v1) v2)", "2", "1", ""}, {"(lambda () v1)", "1", "", ""}, {"(lambda (v3 v1 v2) (v2 v9 v1))", "9", "3 1 2", ""}, {"(lambda (v1) (set! v1 2))", "", "1", "1"}, {"(lambda (v1) (set! v2 v1))", "2", "1", "2"},
		{"(local (v5) v5)", "", "5", "5"}, {"(local (v5 v4) (set! v4 v5))", "", "5 4", "5 4"}, {"(local (v5 v4) (set! v6 v7) v8 (local (v3) v5))", "6 7 8", "5 4 3", "5 4 6 3"}, {"(shift v2 (v2 v1))", "1", "2", ""}, {"(shift v2 (set! v2 1))", "", "2", "2"}, {"(reset (reset v1))", "1", "", ""},
		{"(begin (lambda (v1) v1) v1)", "1", "1", ""}, {"(begin v1 (lambda (v1) v1))", "1", "1", ""}, {"(begin (lambda (v1) v1) (set! v1 2) (lambda (v1) v1) v1)", "1", "1 1", "1"}, {"(begin (local (v1) v1) (local (v2) (v1 v2)) v2)", "1 2", "1 2", "1 2"},
		{"(lambda (v1) (begin (lambda (v2) (v1 v2 v3)) v2 (lambda (v3) v3) v4))", "3 2 4", "1 2 3", ""}, {"(lambda (v1) (begin (lambda (v1) v1) v1))", "", "1 1", ""}, {"(lambda (v1) (begin (lambda (v1) 2) (set! v1 v2)))", "2", "1 1", "1"}, {"((lambda (v1) (lambda (v1) v1)) v1)", "1", "1 1", ""},
		{"(lambda (v2 v2) v2)", "", "2 2", ""}, {"(begin (lambda (v2 v2) v2) v2)", "2", "2 2", ""}, {"(local (v2 v1 v2) (set! v1 3) (set! v3 v2))", "3", "2 1 2", "2 1 3"}, {"(begin (set! v1 2) (local (v1 v2) (set! v2 3)) (set! v1 2))", "1", "1 2", "1 2"}, {"(shift (v1 v2) (v1 v3 v2))", "3", "1 2", ""},
		{"(set! v1 (lambda (v1) v1))", "1", "1", "1"}, {"(lambda (v3) (local (v2) (shift v1 (v1 v2 v3 v4))))", "4", "3 2 1", "2"}, {"(begin (set! v3 (local (v2) 1)) (local (v1) (set! v2 1)))", "3 2", "2 1", "3 2 1"},
	}
	for _, c := range cases {
		got := term(t, c.source)
		checkVariables(t, got, numbersIn(t, c.free), numbersIn(t, c.bound), numbersIn(t, c.boxed))
	}
}

func checkVariables(t *testing.T, c impl.Core, free, bound, boxed []int) {
	t.Helper()
	if got := impl.FreeVariables(c); !sameInts(got, free) {
		t.Errorf("FreeVariables(%s) = %.200v, want %.200v", showCore(c), got, free)
	}
	if got := impl.BoundVariables(c); !sameInts(got, bound) {
		t.Errorf("BoundVariables(%s) = %.200v, want %.200v", showCore(c), got, bound)
	}
	if got := impl.BoxedVariables(c); !sameInts(got, boxed) {
		t.Errorf("BoxedVariables(%s) = %.200v, want %.200v", showCore(c), got, boxed)
	}
}

// Params count as bound in the kids of a node of any Kind, but not at the node
// itself; a Number counts for two kinds only, and Params as boxed for one.
func TestVariablesOfNodesOfAnyKind(t *testing.T) {
	inner := []impl.Core{useOf(3), assignment(4, useOf(1)), useOf(2)}
	for kind := -2; kind <= 14; kind++ {
		c := impl.Core{Kind: kind, Number: 3, Params: []int{1, 3, 1}, Datum: variableSymbol(9), Kids: inner}
		var free, boxed []int
		switch kind {
		case impl.CoreVariable:
			free = []int{3}
		case impl.CoreAssign:
			free, boxed = []int{3}, []int{3}
		case impl.CoreLocal:
			boxed = []int{1, 3}
		}
		checkVariables(t, c, append(free, 4, 2), []int{1, 3, 1}, append(boxed, 4))
		checkVariables(t, node(kind, c, c), append(node0(kind), append(free, 4, 2)...), []int{1, 3, 1, 1, 3, 1}, append(boxed0(kind), append(boxed, 4)...))
		checkVariables(t, binder(impl.CoreLambda, []int{3, 4}, c), []int{2}, []int{3, 4, 1, 3, 1}, append(boxed, 4))
	}
	checkVariables(t, impl.Core{}, nil, nil, nil)
	checkVariables(t, impl.Core{Kind: impl.CoreVariable, Number: leastInt, Params: []int{leastInt}}, []int{leastInt}, []int{leastInt}, nil)
	checkVariables(t, impl.Core{Kind: greatestInt, Params: []int{greatestInt, 0}, Kids: []impl.Core{useOf(greatestInt), useOf(-5), useOf(0)}}, []int{-5}, []int{greatestInt, 0}, nil)
}

// node0 and boxed0 are what a node with the Number 0 has of its own.
func node0(kind int) []int {
	if kind == impl.CoreVariable || kind == impl.CoreAssign {
		return []int{0}
	}
	return nil
}

func boxed0(kind int) []int {
	if kind == impl.CoreAssign {
		return []int{0}
	}
	return nil
}

func TestVariablesOfAnyCore(t *testing.T) {
	g := generator(109)
	found := 0
	for range 6000 {
		for _, c := range []impl.Core{g.anyCore(4), g.core(3), g.change(g.core(3))} {
			free, boxed := describedFree(c), describedBoxed(c)
			found += len(free) + len(boxed)
			checkVariables(t, c, free, describedBound(c), boxed)
		}
		if t.Failed() {
			return
		}
	}
	if found < 20000 {
		t.Errorf("only %d variables are found", found)
	}
	for _, c := range smallCores(3, 1, 2) {
		checkVariables(t, c, describedFree(c), describedBound(c), describedBoxed(c))
	}
	for _, good := range goodCores(t) {
		checkVariables(t, good.c, describedFree(good.c), describedBound(good.c), describedBoxed(good.c))
	}
}

func TestVariablesOfLargeCores(t *testing.T) {
	const count = 100000
	var uses, assigned, locals []impl.Core
	for i := range count {
		uses = append(uses, useOf(count-i), useOf(count-i))
		assigned = append(assigned, assignment(i), assignment(i))
		locals = append(locals, binder(impl.CoreLocal, []int{i % 500, i}))
	}
	var twice, boxed []int
	for i := range count {
		twice = append(twice, i%500, i)
		boxed = append(boxed, i)
	}
	down := make([]int, count)
	for i := range down {
		down[i] = count - i
	}
	checkVariables(t, node(9, uses...), down, nil, nil)
	checkVariables(t, node(8, assigned...), boxed, nil, boxed)
	checkVariables(t, node(8, locals...), nil, twice, boxed)
	checkVariables(t, binder(impl.CoreLocal, from(0, count+1), uses...), nil, from(0, count+1), from(0, count+1))

	deep := node(6, useOf(0), useOf(deepNesting), useOf(deepNesting-1), useOf(deepNesting/2))
	for i := range deepNesting - 2 {
		deep = binder(impl.CoreLambda, []int{i}, deep)
	}
	bound := make([]int, deepNesting-2)
	for i := range bound {
		bound[i] = deepNesting - 3 - i
	}
	checkVariables(t, deep, []int{deepNesting, deepNesting - 1}, bound, nil)
}
