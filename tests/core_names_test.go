package tests

import (
	"slices"
	"testing"

	"loop.example/g03220/impl"
)

func TestAlphaEqual(t *testing.T) {
	// Each line has terms that equal each other, and no term of another line.
	lines := []string{
		"1", "2", "'a", "'b", "\"a\"", "'v1", "'v2", "'(lambda (v1) v1)", "'(lambda (v2) v2)", "+", "-", "v1", "v2", "(set! v1 1)", "(set! v2 1)", "(set! v1 v1)", "(set! v1 v2)", "(set! v2 v1)",
		"(lambda (v1) v1) (lambda (v2) v2) (lambda (v0) v0) (lambda (v99999) v99999)", "(lambda (v1) v9) (lambda (v2) v9)", "(lambda (v1) v8)", "(lambda () v9)", "(lambda (v1) 1) (lambda (v9) 1)", "(lambda () 1)",
		"(lambda (v1 v2) (v1 v2)) (lambda (v2 v1) (v2 v1)) (lambda (v3 v9) (v3 v9))", "(lambda (v1 v2) (v2 v1)) (lambda (v2 v1) (v1 v2))", "(lambda (v1 v2) (v1 v1)) (lambda (v2 v1) (v2 v2))", "(lambda (v1 v2) (v2 v2))",
		"(lambda (v1) (lambda (v2) (v1 v2))) (lambda (v2) (lambda (v1) (v2 v1)))", "(lambda (v1) (lambda (v2) (v2 v1))) (lambda (v2) (lambda (v1) (v1 v2)))", "(lambda (v1) (lambda (v2) (v1 v1)))",
		"(lambda (v1) (v1 v2)) (lambda (v3) (v3 v2))", "(lambda (v1) (v1 v3)) (lambda (v2) (v2 v3))", "(lambda (v1) (v2 v1))", "(lambda (v1) (v2 v3)) (lambda (v4) (v2 v3))", "(lambda (v1) (v3 v2)) (lambda (v0) (v3 v2))",
		"(begin (lambda (v1) v1) (lambda (v2) v2)) (begin (lambda (v2) v2) (lambda (v1) v1)) (begin (lambda (v8) v8) (lambda (v9) v9))", "(begin (lambda (v1) v3) (lambda (v2) v2)) (begin (lambda (v2) v3) (lambda (v1) v1))",
		"(local (v1) v1) (local (v2) v2)", "(local (v1) v1 v1)", "(local (v1 v2) v1) (local (v2 v1) v2)", "(local (v1 v2) v2)", "(local (v1 v2) (set! v1 v2)) (local (v2 v1) (set! v2 v1))", "(local (v1 v2) (set! v2 v1))", "(local (v1) (set! v3 v1))", "(local (v1) (set! v1 v3)) (local (v2) (set! v2 v3))",
		"(shift v1 v1) (shift v2 v2)", "(shift v1 v9) (shift v2 v9)", "(reset v1)", "(reset v2)", "(reset (shift v1 v1)) (reset (shift v2 v2))", "(if v1 v2 v3)", "(if v3 v2 v1)", "(begin v1 v2 v3)", "(v1 v2 v3)", "(v1 (v2 v3))", "(v1)", "((v1))",
	}
	var all []impl.Core
	var lineOf []int
	for i, line := range lines {
		for _, c := range terms(t, line) {
			all, lineOf = append(all, c), append(lineOf, i)
		}
	}
	for i, a := range all {
		for j, b := range all {
			if got := impl.AlphaEqual(a, b); got != (lineOf[i] == lineOf[j]) {
				t.Errorf("AlphaEqual(%s, %s) = %v", showCore(a), showCore(b), got)
			}
		}
	}
}

// Each of these would be equal if only some names were compared, or each binder
// for itself.
func TestAlphaEqualTellsBinders(t *testing.T) {
	cases := []struct{ a, b string }{
		{"(lambda (v1) (lambda (v2) v1))", "(lambda (v1) (lambda (v2) v2))"}, {"(lambda (v1) v1)", "(lambda (v1) v2)"}, {"(lambda (v1) v2)", "(lambda (v2) v1)"}, {"(lambda (v1) v2)", "(lambda (v2) v2)"},
		{"(lambda (v2) (v1 v2))", "(lambda (v1) (v1 v1))"}, {"(lambda (v1) (v1 v2))", "(lambda (v2) (v2 v1))"}, {"(lambda (v1 v2 v3) (v1 v2 v3))", "(lambda (v1 v2 v3) (v2 v3 v1))"}, {"(lambda (v1 v2) v1)", "(lambda (v1) v1)"},
		{"(begin (lambda (v1) v1) v2)", "(begin (lambda (v1) v1) v3)"}, {"(begin (shift v1 v1) (shift v2 v2))", "(begin (shift v1 v1) (lambda (v2) v2))"}, {"(lambda (v1) v1)", "(shift v1 v1)"}, {"(local (v1) v1)", "(lambda (v1) v1)"},
		{"(lambda (v1) (set! v1 1))", "(lambda (v1) (set! v2 1))"}, {"(lambda (v1) (set! v1 1))", "(lambda (v1) (set! v1 2))"}, {"(lambda (v1) 'v1)", "(lambda (v2) 'v2)"}, {"(lambda (v1) '(v1))", "(lambda (v1) '(v2))"},
		{"(lambda (v0) (v0 v1))", "(lambda (v1) (v1 v0))"}, {"(local (v1 v2) (lambda (v3) (v1 v2 v3)))", "(local (v1 v2) (lambda (v3) (v1 v3 v2)))"},
	}
	for _, c := range cases {
		a, b := term(t, c.a), term(t, c.b)
		if impl.AlphaEqual(a, b) || impl.AlphaEqual(b, a) {
			t.Errorf("AlphaEqual(%s, %s) = true", c.a, c.b)
		}
		if impl.AlphaEqual(a, a) != isGoodAlone(a) || impl.AlphaEqual(b, b) != isGoodAlone(b) {
			t.Errorf("%s or %s equals itself, or not, unlike what is valid", c.a, c.b)
		}
	}
}

func TestAlphaEqualOfInvalidCores(t *testing.T) {
	bad := append(badCores(t), branching(61), branching(301), constant(branchingDatum(61)))
	for _, c := range bad {
		if impl.AlphaEqual(c, c) {
			t.Errorf("AlphaEqual(%s) with itself = true", showCore(c))
		}
		if impl.AlphaEqual(c, constant(number(1))) || impl.AlphaEqual(constant(number(1)), c) {
			t.Errorf("AlphaEqual(%s) with a constant = true", showCore(c))
		}
	}
	for _, both := range []struct{ a, b string }{
		{"(begin (lambda (v1) v1) (lambda (v1) v1))", "(begin (lambda (v1) v1) (lambda (v2) v2))"}, {"(lambda (v1) (lambda (v1) v1))", "(lambda (v1) (lambda (v2) v2))"}, {"((lambda (v1) v1) v1)", "((lambda (v2) v2) v1)"},
	} {
		if impl.AlphaEqual(term(t, both.a), term(t, both.b)) || impl.AlphaEqual(term(t, both.b), term(t, both.a)) {
			t.Errorf("AlphaEqual(%s, %s) = true", both.a, both.b)
		}
	}
	for _, g := range goodCores(t) {
		if !impl.AlphaEqual(g.c, withEmptySlices(g.c)) || !impl.AlphaEqual(g.c, g.c) {
			t.Errorf("%s does not equal itself", showCore(g.c))
		}
	}
}

func TestAlphaEqualOfEachPairOfSmallTerms(t *testing.T) {
	all := smallCores(2, 1, 2)
	for _, c := range smallCores(2, 1, 2) {
		for _, n := range []int{1, 2} {
			all = append(all, binder(impl.CoreLambda, []int{n}, c), binder(impl.CoreLambda, []int{n, 3 - n}, c), node(impl.CoreApply, c, binder(impl.CoreLambda, []int{n}, useOf(n))))
		}
	}
	written := make([]string, len(all))
	for i, c := range all {
		if isGoodAlone(c) {
			written[i] = addresses(c)
		}
	}
	equal := 0
	for i, a := range all {
		for j, b := range all {
			want := written[i] != "" && written[i] == written[j]
			if want && i != j {
				equal++
			}
			if got := impl.AlphaEqual(a, b); got != want {
				t.Fatalf("AlphaEqual(%s, %s) = %v", showCore(a), showCore(b), got)
			}
		}
	}
	if equal < 50 {
		t.Errorf("only %d pairs of different terms are equal", equal)
	}
}

// renamedBinders gives the binders of a valid term other names, from those that
// are not free in it.
func (g *generator) renamedBinders(c impl.Core) impl.Core {
	c = copiedCore(c)
	free, bound := describedFree(c), describedBound(c)
	var names []int
	for range bound {
		n := g.below(2*len(bound) + 10)
		for slices.Contains(names, n) || slices.Contains(free, n) {
			n++
		}
		names = append(names, n)
	}
	for _, at := range nodesOf(&c) {
		for i, n := range at.Params {
			at.Params[i] = names[slices.Index(bound, n)]
		}
		if i := slices.Index(bound, at.Number); usesNumber(*at) && i >= 0 {
			at.Number = names[i]
		}
	}
	return c
}

func TestAlphaEqualOfGeneratedTerms(t *testing.T) {
	g := generator(139)
	equal := 0
	for range 4000 {
		a := g.core(1 + g.below(4))
		renamed := g.renamedBinders(a)
		others := []impl.Core{renamed, g.change(renamed), g.change(a), g.renamedBinders(renamed), g.core(2), g.anyCore(2)}
		if !impl.AlphaEqual(a, a) || !impl.AlphaEqual(a, renamed) {
			t.Fatalf("%s does not equal itself or %s", showCore(a), showCore(renamed))
		}
		for _, b := range others {
			want := isGoodAlone(b) && addresses(a) == addresses(b)
			if want {
				equal++
			}
			got := impl.AlphaEqual(a, b)
			if got != want || impl.AlphaEqual(b, a) != got {
				t.Fatalf("AlphaEqual(%s, %s) = %v, want %v in both orders", showCore(a), showCore(b), got, want)
			}
			if got && !sameInts(impl.FreeVariables(a), impl.FreeVariables(b)) {
				t.Fatalf("%s and %s are equal and have other free variables", showCore(a), showCore(b))
			}
		}
	}
	if equal < 8000 || equal > 18000 {
		t.Errorf("%d of 24000 pairs are equal", equal)
	}
}

func TestRenumberCore(t *testing.T) {
	cases := []struct {
		source string
		first  int
		want   string
		next   int
	}{
		{"1", 0, "1", 0}, {"1", 99999, "1", 99999}, {"+", 5, "+", 5}, {"v3", 4, "v3", 4}, {"'v3", 0, "'v3", 0}, {"'(lambda (v3) v3)", 7, "'(lambda (v3) v3)", 7}, {"(set! v3 v2)", 4, "(set! v3 v2)", 4},
		{"(lambda (v1) (+ v1 v7))", 20, "(lambda (v20) (+ v20 v7))", 21}, {"(lambda (v1) v1)", 0, "(lambda (v0) v0)", 1}, {"(lambda (v1) v1)", 1, "(lambda (v1) v1)", 2}, {"(lambda (v1) v1)", 99998, "(lambda (v99998) v99998)", 99999},
		{"(lambda (v2 v1) (v1 v2))", 1, "(lambda (v1 v2) (v2 v1))", 3}, {"(lambda (v2 v1) (v1 v2))", 2, "(lambda (v2 v3) (v3 v2))", 4}, {"(lambda (v5 v6 v7) (v7 v6 v5))", 6, "(lambda (v6 v7 v8) (v8 v7 v6))", 9}, {"(lambda () v0)", 1, "(lambda () v0)", 1},
		{"(local (v9 v3) (set! v3 v9) (lambda (v8) (v8 v9)) (shift v4 (v4 v3 v1)))", 2, "(local (v2 v3) (set! v3 v2) (lambda (v4) (v4 v2)) (shift v5 (v5 v3 v1)))", 6},
		{"(begin (lambda (v2) v2) (lambda (v1) v1))", 0, "(begin (lambda (v0) v0) (lambda (v1) v1))", 2}, {"(if (local (v3) 1) (reset (local (v2) (set! v2 1))) (local (v1) v1))", 3, "(if (local (v3) 1) (reset (local (v4) (set! v4 1))) (local (v5) v5))", 6},
		{"(lambda (v3) (lambda (v2) (lambda (v1) (v1 v2 v3))))", 1, "(lambda (v1) (lambda (v2) (lambda (v3) (v3 v2 v1))))", 4}, {"(lambda (v1) 'v1)", 5, "(lambda (v5) 'v1)", 6}, {"((lambda (v1) +) 1)", 1, "((lambda (v1) +) 1)", 2},
		// A free variable is at least first, or less.
		{"(lambda (v1) v7)", 8, "(lambda (v8) v7)", 9}, {"(lambda (v1) v7)", 7, "(lambda (v1) v7)", 7}, {"(lambda (v1) v7)", 6, "(lambda (v1) v7)", 6}, {"(lambda (v1) v7)", 0, "(lambda (v1) v7)", 0}, {"(lambda (v1) (set! v7 1))", 7, "(lambda (v1) (set! v7 1))", 7}, {"(lambda (v1) (set! v7 1))", 8, "(lambda (v8) (set! v7 1))", 9},
		{"(lambda (v1) (v7 v5))", 6, "(lambda (v1) (v7 v5))", 6}, {"(lambda (v1) (v5 v7))", 6, "(lambda (v1) (v5 v7))", 6}, {"(lambda (v1) (v5 v7))", 8, "(lambda (v8) (v5 v7))", 9}, {"(lambda (v1) v99999)", 99999, "(lambda (v1) v99999)", 99999}, {"(lambda (v1) v0)", 0, "(lambda (v1) v0)", 0}, {"(lambda (v1) v99998)", 99999, "(lambda (v1) v99998)", 99999},
		// As many numbers are left as there are binders, or fewer.
		{"(lambda (v1) v1)", 99999, "(lambda (v1) v1)", 99999}, {"(lambda (v2 v1) v1)", 99997, "(lambda (v99997 v99998) v99998)", 99999}, {"(lambda (v2 v1) v1)", 99998, "(lambda (v2 v1) v1)", 99998}, {"(lambda (v2 v1) v1)", 99999, "(lambda (v2 v1) v1)", 99999}, {"v7", 99999, "v7", 99999},
		// There is no such first number.
		{"(lambda (v1) v1)", -1, "(lambda (v1) v1)", -1}, {"(lambda (v1) v1)", 100000, "(lambda (v1) v1)", 100000}, {"1", -1, "1", -1}, {"1", 100000, "1", 100000}, {"(lambda (v1) v1)", leastInt, "(lambda (v1) v1)", leastInt}, {"(lambda (v1) v1)", greatestInt, "(lambda (v1) v1)", greatestInt},
		{"(lambda (v1 v2) v1)", greatestInt - 1, "(lambda (v1 v2) v1)", greatestInt - 1}, {"(lambda (v1) v1)", -99999, "(lambda (v1) v1)", -99999},
	}
	for _, c := range cases {
		got, next := impl.RenumberCore(term(t, c.source), c.first)
		if !sameCore(got, term(t, c.want)) || next != c.next {
			t.Errorf("RenumberCore(%s, %d) = %s, %d, want %s, %d", c.source, c.first, showCore(got), next, c.want, c.next)
		}
	}
}

func TestRenumberCoreOfInvalidCores(t *testing.T) {
	for _, c := range badCores(t) {
		for _, first := range []int{-1, 0, 1, 50, 99999, 100000, leastInt, greatestInt} {
			if got, next := impl.RenumberCore(c, first); !sameCore(got, c) || next != first {
				t.Errorf("RenumberCore(%s, %d) = %s, %d", showCore(c), first, showCore(got), next)
			}
		}
	}
}

func TestRenumberCoreOfLargeCores(t *testing.T) {
	wide := node(impl.CoreApply, primitive(1))
	for i := range 8 {
		wide.Kids = append(wide.Kids, binder(impl.CoreLocal, from(60*(8-i), 60), assignment(60*(8-i)+59, useOf(60*(8-i)+1))))
	}
	want := node(impl.CoreApply, primitive(1))
	for i := range 8 {
		want.Kids = append(want.Kids, binder(impl.CoreLocal, from(99519+60*i, 60), assignment(99519+60*i+59, useOf(99519+60*i+1))))
	}
	got, next := impl.RenumberCore(wide, 99519)
	if !sameCore(got, want) || next != 99999 {
		t.Errorf("the greatest numbers are not given to 480 binders: %s, %d", showCore(got), next)
	}
	if got, next := impl.RenumberCore(wide, 99520); !sameCore(got, wide) || next != 99520 {
		t.Errorf("480 binders get fewer numbers: %s, %d", showCore(got), next)
	}
	for _, g := range goodCores(t) {
		checkRenumbered(t, g.c, 0)
		checkRenumbered(t, g.c, 10)
	}
}

// checkRenumbered compares with a description: which binders there are, in
// order, and that nothing else is changed.
func checkRenumbered(t *testing.T, c impl.Core, first int) {
	t.Helper()
	got, next := impl.RenumberCore(c, first)
	free, bound := describedFree(c), describedBound(c)
	isTaken := slices.ContainsFunc(free, func(n int) bool { return n >= first })
	if !isGoodCore(c, free) || first < 0 || first > 99999 || isTaken || first > 99999-len(bound) {
		if !sameCore(got, c) || next != first {
			t.Errorf("RenumberCore(%s, %d) = %s, %d, want no change", showCore(c), first, showCore(got), next)
		}
		return
	}
	if next != first+len(bound) || !sameInts(describedBound(got), from(first, len(bound))) || addresses(got) != addresses(c) {
		t.Errorf("RenumberCore(%s, %d) = %s, %d", showCore(c), first, showCore(got), next)
	}
	if !impl.AlphaEqual(got, c) || !impl.IsCore(got, free) {
		t.Errorf("RenumberCore(%s, %d) = %s, which does not equal it", showCore(c), first, showCore(got))
	}
}

func TestRenumberCoreOfAnyCore(t *testing.T) {
	g := generator(149)
	for range 4000 {
		c := g.core(1 + g.below(4))
		count := len(describedBound(c))
		for _, other := range []impl.Core{c, g.renamedBinders(c), g.change(c), g.anyCore(3)} {
			for _, first := range []int{-1, g.below(6), 5 + g.below(20), g.below(10000), 99999 - count, 100000 - count, g.below(100001), 100000} {
				checkRenumbered(t, other, first)
			}
		}
		if t.Failed() {
			return
		}
	}
}
