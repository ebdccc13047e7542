package tests

import (
	"slices"
	"testing"

	"loop.example/g03220/impl"
)

func TestLimitsAndKindsOfCores(t *testing.T) {
	kinds := []int{
		impl.CoreQuote, impl.CoreVariable, impl.CorePrimitive, impl.CoreAssign, impl.CoreLambda, impl.CoreApply,
		impl.CoreIf, impl.CoreSequence, impl.CoreLocal, impl.CoreReset, impl.CoreShift,
	}
	if !sameInts(kinds, from(1, 11)) {
		t.Errorf("the kinds are %v", kinds)
	}
	limits := []int{impl.MaxCore, impl.MaxCoreDepth, impl.MaxVariable, impl.MaxParams, impl.MaxKids}
	if !sameInts(limits, []int{3000, 150, 99999, 8, 60}) {
		t.Errorf("the limits are %v", limits)
	}
}

func TestSizeAndDepthOfCore(t *testing.T) {
	cases := []struct {
		c           impl.Core
		size, depth int
	}{
		{impl.Core{}, 1, 1}, {impl.Core{Kids: []impl.Core{}}, 1, 1}, {constant(symbol("a")), 1, 1}, {constant(list(atoms(5)...)), 1, 1}, {useOf(1), 1, 1}, {primitive(2), 1, 1},
		{impl.Core{Kind: leastInt, Number: 7, Params: from(1, 9)}, 1, 1}, {impl.Core{Kind: impl.CoreVariable, Datum: nested(30), Kids: constants(2)}, 3, 2},
		{term(t, "(set! v1 2)"), 2, 2}, {term(t, "(lambda (v1 v2) v1)"), 2, 2}, {term(t, "(lambda (v1) (+ v1 v7))"), 5, 3}, {term(t, "(if 1 2 3)"), 4, 2}, {term(t, "(begin 1 (reset (reset 2)) 3)"), 6, 4},
		{term(t, "(local (v1 v2) (v1 v2) (shift v3 (reset 1)) v1)"), 8, 4}, {term(t, "((((1))))"), 5, 5}, {term(t, "(begin (reset (reset 1)) (reset 2))"), 6, 4}, {term(t, "(begin (reset 2) (reset (reset 1)) 3)"), 7, 4},
		{node(9, constants(100000)...), 100001, 2}, {sized(3000), 3000, 3}, {sized(3001), 3001, 3}, {within(149, useOf(1)), 150, 150}, {within(150, useOf(1)), 151, 151},
		{within(deepNesting-1, useOf(1)), deepNesting, deepNesting}, {node(0, within(5, useOf(1)), useOf(2), within(3, useOf(1))), 12, 7}, {branching(12), 1<<12 - 1, 12},
	}
	for _, c := range cases {
		if got := impl.SizeOfCore(c.c); got != c.size {
			t.Errorf("SizeOfCore(%s) = %d, want %d", showCore(c.c), got, c.size)
		}
		if got := impl.DepthOfCore(c.c); got != c.depth {
			t.Errorf("DepthOfCore(%s) = %d, want %d", showCore(c.c), got, c.depth)
		}
	}
}

func TestSizeAndDepthOfAnyCore(t *testing.T) {
	g := generator(101)
	for range 3000 {
		c := g.anyCore(4)
		size, depth := 0, 0
		eachTerm(c, func(around []impl.Core, _ impl.Core) { size, depth = size+1, max(depth, len(around)+1) })
		if impl.SizeOfCore(c) != size || impl.DepthOfCore(c) != depth {
			t.Fatalf("%s has the size %d and the depth %d, not %d and %d", showCore(c), impl.SizeOfCore(c), impl.DepthOfCore(c), size, depth)
		}
	}
}

func TestEqualCores(t *testing.T) {
	different := []impl.Core{
		{}, {Kind: 1}, {Kind: -1}, {Kind: 12}, {Number: 1}, {Number: -1}, {Params: from(0, 1)}, {Params: from(1, 1)}, {Params: from(0, 2)}, {Params: []int{1, 0}}, {Datum: symbol("a")}, {Datum: symbol("b")},
		{Datum: text("a")}, {Datum: list(symbol("a"))}, {Datum: impl.Datum{Number: 1}}, {Datum: impl.Datum{Text: "\xff"}}, {Kids: []impl.Core{{}}}, {Kids: []impl.Core{{}, {}}}, {Kids: []impl.Core{{Kids: []impl.Core{{}}}}},
		constant(symbol("a")), constant(symbol("b")), constant(number(1)), useOf(1), useOf(2), primitive(1), assignment(1), assignment(1, useOf(1)), assignment(2, useOf(1)), assignment(1, useOf(2)),
		term(t, "(lambda (v1) v1)"), term(t, "(lambda (v2) v2)"), term(t, "(lambda () v1)"), term(t, "(local (v1) v1)"), term(t, "(shift v1 v1)"), term(t, "(v1 v2)"), term(t, "(v2 v1)"), term(t, "(v1)"), term(t, "(v1 v2 v3)"),
		term(t, "((v1) v2)"), term(t, "((v1 v2))"), term(t, "(if v1 v2 v3)"), term(t, "(begin v1 v2 v3)"), term(t, "(reset v1)"), impl.Core{Kind: greatestInt, Number: leastInt, Kids: constants(2)},
		sized(3000), sized(3001), within(200, useOf(1)), within(201, useOf(1)), within(200, useOf(2)), within(deepNesting-1, useOf(1)), within(deepNesting-1, useOf(2)),
	}
	copies := coresWithSpare(different)
	for i, a := range different {
		for j, b := range copies {
			if got := impl.EqualCores(a, b); got != (i == j) {
				t.Errorf("EqualCores(%s, %s) = %v", showCore(a), showCore(b), got)
			}
		}
	}
	empty := impl.Core{Kind: 3, Params: []int{}, Datum: impl.Datum{Items: []impl.Datum{}}, Kids: []impl.Core{}}
	if !impl.EqualCores(empty, impl.Core{Kind: 3}) || !impl.EqualCores(node(1, impl.Core{Kind: 3}), node(1, empty)) {
		t.Error("EqualCores tells nil slices from empty ones")
	}
}

func TestEqualCoresOfAnyCores(t *testing.T) {
	g := generator(103)
	equal := 0
	for range 5000 {
		a := g.anyCore(3)
		b := g.change(a)
		want := sameCore(a, b)
		if want {
			equal++
		}
		if impl.EqualCores(a, b) != want || impl.EqualCores(b, a) != want || !impl.EqualCores(a, copiedCore(a)) {
			t.Fatalf("%s and %s are taken for equal or not, unlike %v", showCore(a), showCore(b), want)
		}
	}
	if equal < 100 || equal > 4000 {
		t.Errorf("%d of 5000 pairs are equal", equal)
	}
}

func TestIsCore(t *testing.T) {
	for _, g := range goodCores(t) {
		if !impl.IsCore(g.c, g.globals) {
			t.Errorf("IsCore(%s, %.100v) = false", showCore(g.c), g.globals)
		}
		if free := describedFree(g.c); !impl.IsCore(g.c, free) {
			t.Errorf("IsCore(%s) with its free variables %v = false", showCore(g.c), free)
		}
	}
	for _, c := range badCores(t) {
		if impl.IsCore(c, nil) || impl.IsCore(c, describedFreeOf(c)) || impl.IsCore(c, from(1, 3)) {
			t.Errorf("IsCore(%s) = true", showCore(c))
		}
		if inner := node(impl.CoreIf, constant(number(1)), c, constant(number(2))); impl.IsCore(inner, describedFreeOf(inner)) {
			t.Errorf("IsCore of a term with %s within = true", showCore(c))
		}
	}
}

// describedFreeOf does not look at terms that are very deep, where the
// description is slow.
func describedFreeOf(c impl.Core) []int {
	if impl.DepthOfCore(c) > 1000 {
		return nil
	}
	return describedFree(c)
}

func TestIsCoreWithGlobals(t *testing.T) {
	cases := []struct {
		source, globals string
		want            bool
	}{
		{"1", "", true}, {"1", "0 99999", true}, {"1", "-1", false}, {"1", "100000", false}, {"1", "0 5 99999 100000", false}, {"1", "-1 0", false}, {"1", "3 1 2", true}, {"1", "3 3", false}, {"1", "3 1 2 3", false},
		{"1", "-9223372036854775808", false}, {"1", "9223372036854775807", false},
		{"v1", "", false}, {"v1", "1", true}, {"v1", "2", false}, {"v1", "2 3 1", true}, {"v1", "1 1", false}, {"v0", "", false}, {"v0", "0", true}, {"v99999", "99999", true}, {"v100000", "100000", false}, {"v-1", "-1", false},
		{"(set! v1 2)", "", false}, {"(set! v1 2)", "1", true}, {"(set! v1 v2)", "1", false}, {"(set! v1 v2)", "2", false}, {"(set! v1 v2)", "2 1", true}, {"(set! v0 2)", "0", true}, {"(set! v99999 2)", "99999", true},
		{"(lambda (v1) v1)", "", true}, {"(lambda (v1) v1)", "2", true}, {"(lambda (v1) v1)", "1", false}, {"(lambda (v1) 2)", "1", false}, {"(lambda (v1) v2)", "", false}, {"(lambda (v1) v2)", "2", true}, {"(lambda (v1) v2)", "2 1", false},
		{"(local (v1) (set! v1 2))", "", true}, {"(local (v1) (set! v1 2))", "1", false}, {"(local (v1) (set! v3 2))", "", false}, {"(local (v1) (set! v3 2))", "3", true}, {"(shift v1 (v1 v2))", "2", true}, {"(shift v1 (v1 v2))", "2 1", false},
		{"(begin (lambda (v1) v1) v2)", "2", true}, {"(begin (lambda (v1) v1) v2)", "", false}, {"(begin (lambda (v1) v1) v1)", "", false}, {"(begin (lambda (v1) v1) v1)", "1", false}, {"(begin v1 (lambda (v1) v1))", "1", false},
		{"(begin (lambda (v1) v1) (lambda (v1) v1))", "", false}, {"(lambda (v1) (lambda (v1) v1))", "", false}, {"(lambda (v1) (lambda (v2) (v1 v2 v3)))", "3", true}, {"(lambda (v0 v99999) (v0 v99999))", "", true},
	}
	for _, c := range cases {
		if got := impl.IsCore(term(t, c.source), numbersIn(t, c.globals)); got != c.want {
			t.Errorf("IsCore(%s, %s) = %v", c.source, c.globals, got)
		}
	}
	if !impl.IsCore(useOf(99999), from(0, 100000)) || impl.IsCore(term(t, "(lambda (v99999) 1)"), from(0, 100000)) || !impl.IsCore(term(t, "(lambda (v99999) 1)"), from(0, 99999)) {
		t.Error("the greatest variable is not a global or a binder")
	}
	if impl.IsCore(useOf(1), append(from(0, 100000), 0)) || impl.IsCore(useOf(1), make([]int, 1000000)) || impl.IsCore(useOf(1), from(0, 1000000)) {
		t.Error("IsCore takes too many globals")
	}
}

func TestIsCoreOfEmptySlices(t *testing.T) {
	for _, g := range goodCores(t) {
		if c := withEmptySlices(g.c); !impl.IsCore(c, append([]int{}, g.globals...)) {
			t.Errorf("IsCore(%s) with empty slices = false", showCore(c))
		}
	}
	if !impl.IsCore(constant(number(1)), []int{}) || impl.IsCore(useOf(1), []int{}) {
		t.Error("IsCore with empty globals is not as with nil")
	}
}

// withEmptySlices puts an empty slice in place of each nil one.
func withEmptySlices(c impl.Core) impl.Core {
	c.Params = append([]int{}, c.Params...)
	c.Datum.Items = append([]impl.Datum{}, c.Datum.Items...)
	kids := []impl.Core{}
	for _, kid := range c.Kids {
		kids = append(kids, withEmptySlices(kid))
	}
	c.Kids = kids
	return c
}

func TestIsCoreUpToTheLimits(t *testing.T) {
	wide := func(count int) impl.Core {
		return binder(impl.CoreLocal, from(1, count), assignment(1, useOf(count)))
	}
	deepWith := func(resets int) impl.Core {
		return node(impl.CoreIf, within(3, constant(number(1))), within(resets, useOf(1)), constant(number(2)))
	}
	cases := []struct {
		label string
		c     impl.Core
		want  bool
	}{
		{"2999 nodes", sized(2999), true}, {"3000 nodes", sized(3000), true}, {"3001 nodes", sized(3001), false}, {"3000 nodes within one", node(impl.CoreReset, sized(3000)), false}, {"2999 nodes within one", node(impl.CoreReset, sized(2999)), true},
		{"100000 nodes", sized(100000), false}, {"2^60 nodes", branching(61), false}, {"2^140 nodes", branching(141), false}, {"2^300 nodes", branching(301), false}, {"2047 nodes", branching(11), true}, {"4095 nodes", branching(12), false},
		{"depth 150", within(149, useOf(1)), true}, {"depth 151", within(150, useOf(1)), false}, {"depth 150 in a second kid", deepWith(148), true}, {"depth 151 in a second kid", deepWith(149), false},
		{"60 variables", wide(60), true}, {"61 variables", wide(61), false}, {"1 variable", wide(1), true}, {"60 kids", binder(impl.CoreLocal, from(1, 1), constants(60)...), true}, {"61 kids", binder(impl.CoreLocal, from(1, 1), constants(61)...), false},
		{"60 in order", node(impl.CoreSequence, constants(60)...), true}, {"61 in order", node(impl.CoreSequence, constants(61)...), false}, {"2 in order", node(impl.CoreSequence, constants(2)...), true}, {"1 in order", node(impl.CoreSequence, constants(1)...), false}, {"none in order", node(impl.CoreSequence), false},
		{"8 arguments", node(impl.CoreApply, constants(9)...), true}, {"9 arguments", node(impl.CoreApply, constants(10)...), false}, {"no arguments", node(impl.CoreApply, constants(1)...), true}, {"no operator", node(impl.CoreApply), false},
		{"8 parameters", binder(impl.CoreLambda, from(1, 8), useOf(8)), true}, {"9 parameters", binder(impl.CoreLambda, from(1, 9), useOf(8)), false}, {"no parameters", binder(impl.CoreLambda, nil, useOf(8)), true},
		{"no variable of a shift", binder(impl.CoreShift, nil, constant(number(1))), false}, {"1 variable of a shift", binder(impl.CoreShift, from(1, 1), useOf(1)), true}, {"2 variables of a shift", binder(impl.CoreShift, from(1, 2), useOf(1)), false},
		{"the last primitive", primitive(13), true}, {"the first primitive", primitive(0), true}, {"a primitive behind the last one", primitive(14), false}, {"a primitive before the first one", primitive(-1), false},
		{"a datum of 600 nodes", constant(list(atoms(599)...)), true}, {"a datum of 601 nodes", constant(list(atoms(600)...)), false}, {"a datum of depth 20", constant(nested(20)), true}, {"a datum of depth 21", constant(nested(21)), false},
		{"60 data of 600 nodes", node(impl.CoreSequence, slices.Repeat([]impl.Core{constant(list(atoms(599)...))}, 60)...), true}, {"a datum of 2^60 nodes", constant(branchingDatum(61)), false},
	}
	for _, c := range cases {
		if got := impl.IsCore(c.c, describedFreeIfSmall(c.c)); got != c.want {
			t.Errorf("IsCore of a term with %s = %v", c.label, got)
		}
	}
}

// describedFreeIfSmall does not visit terms whose parts share memory.
func describedFreeIfSmall(c impl.Core) []int {
	if len(c.Kids) == 2 && c.Kind == impl.CoreApply {
		return nil
	}
	return describedFreeOf(c)
}

func TestIsCoreOfEachSmallTerm(t *testing.T) {
	good := 0
	for _, c := range smallCores(3, 1, 2) {
		for _, globals := range [][]int{nil, {1}, {2}, {1, 2}, {1, 2, 1}, {-1, 1, 2}} {
			want := isGoodCore(c, globals)
			if want {
				good++
			}
			if got := impl.IsCore(c, globals); got != want {
				t.Fatalf("IsCore(%s, %v) = %v", showCore(c), globals, got)
			}
		}
	}
	if good < 300 {
		t.Errorf("only %d terms are valid", good)
	}
}

func TestIsCoreOfAnyCore(t *testing.T) {
	g := generator(107)
	good := 0
	check := func(c impl.Core, globals []int) {
		t.Helper()
		want := isGoodCore(c, globals)
		if want {
			good++
		}
		if got := impl.IsCore(c, globals); got != want {
			t.Fatalf("IsCore(%s, %v) = %v, want %v", showCore(c), globals, got, want)
		}
	}
	for range 6000 {
		c := g.core(1 + g.below(4))
		if !impl.IsCore(c, from(1, 4)) || !isGoodAlone(c) {
			t.Fatalf("the term %s that was made is not valid", showCore(c))
		}
		changed := g.change(c)
		other := g.anyCore(3)
		for _, globals := range [][]int{nil, from(1, 4), describedFree(c)} {
			check(c, globals)
			check(changed, globals)
			check(other, globals)
		}
		check(changed, describedFree(changed))
		check(other, describedFree(other))
	}
	if good < 15000 || good > 40000 {
		t.Errorf("%d of 66000 are valid", good)
	}
}
