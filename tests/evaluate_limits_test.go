package tests

import (
	"fmt"
	"slices"
	"strings"
	"testing"

	"loop.example/g03220/impl"
)

// A budget of as many ticks as an evaluation takes is enough, and one less is
// not.
func TestBudgets(t *testing.T) {
	for _, s := range []struct {
		source string
		budget int
		wanted impl.Outcome
	}{
		{"7", 0, done("7", 0, 0)}, {"'(1)", 0, done("(1)", 0, 1)}, {"(lambda () 1)", 0, done("#procedure", 0, 1)}, {"(reset (shift v1 (if v1 (begin 1 2) 3)))", 0, done("2", 0, 1)}, {"(local (v1) (set! v1 5) v1)", 0, done("5", 0, 0)}, {"(local (v1) v1)", 0, failed("variable is not assigned", 0, 0)},
		{"(shift v1 1)", 0, failed("shift outside of reset", 0, 0)}, {"(+ 1 2)", 0, outOfTicks(0, 0)}, {"(+ 1 2)", 1, done("3", 1, 0)}, {"(+ 1 2)", 2, done("3", 1, 0)}, {"(+ 1 'a)", 0, outOfTicks(0, 0)}, {"(+ 1 'a)", 1, failed("+: bad argument", 1, 0)},
		{"(1)", 0, outOfTicks(0, 0)}, {"(1)", 1, failed("not a procedure", 1, 0)}, {"(+)", 0, outOfTicks(0, 0)}, {"(+)", 1, failed("wrong number of arguments", 1, 0)}, {"(display 1)", 0, outOfTicks(0, 0)}, {"(display 1)", 1, done("#void", 1, 0, "1")}, {"(cons '(1) (lambda () 1))", 0, outOfTicks(0, 2)}, {"(cons '(1) (lambda () 1))", 1, done("((1) . #procedure)", 1, 3)},
		{"((lambda () 1))", 0, outOfTicks(0, 1)}, {"((lambda () 1))", 1, done("1", 1, 1)}, {"(local (v1) (v1))", 0, failed("variable is not assigned", 0, 0)}, {"((display 1) (display 2))", 2, outOfTicks(2, 0, "1", "2")}, {"((display 1) (display 2))", 1, outOfTicks(1, 0, "1")}, {"((display 1) (display 2))", 3, failed("not a procedure", 3, 0, "1", "2")},
		{"(reset (+ 1 (shift v1 (v1 2))))", 0, outOfTicks(0, 1)}, {"(reset (+ 1 (shift v1 (v1 2))))", 1, outOfTicks(1, 1)}, {"(reset (+ 1 (shift v1 (v1 2))))", 2, done("3", 2, 1)}, {"(begin (display 1) (display 2) (display 3))", 2, outOfTicks(2, 0, "1", "2")}, {"(begin (display 1) (display 2) (display 3))", 3, done("#void", 3, 0, "1", "2", "3")},
		{"(+ 1 (* 2 3))", 1, outOfTicks(1, 0)}, {"(+ (1) (* 2 3))", 0, outOfTicks(0, 0)}, {"(if (not #f) (car '()) 1)", 1, outOfTicks(1, 0)}, {"(if (not #f) (car '()) 1)", 2, failed("car: bad argument", 2, 0)},
	} {
		checkOutcome(t, term(t, s.source), s.budget, s.wanted)
		checkBudgets(t, term(t, s.source), []int{0, 1, 2, 3, 4, 4999, 5000})
	}
}

// Loops and recursions, as far as the budget goes.
func TestLongEvaluations(t *testing.T) {
	for _, s := range []struct {
		source string
		last   int // the greatest number that the budget is enough for
		wanted func(n int) impl.Outcome
		beyond impl.Outcome
	}{
		// A loop.
		{"(local (v1) (set! v1 (lambda (v2) (if (= v2 0) 'end (v1 (- v2 1))))) (v1 N))", 1666, func(n int) impl.Outcome { return done("end", 3*n+2, 1) }, outOfTicks(5000, 1)},
		// A recursion.
		{"(local (v1) (set! v1 (lambda (v2) (if (= v2 0) 7 (+ 1 (v1 (- v2 1)))))) (v1 N))", 1249, func(n int) impl.Outcome { return done(fmt.Sprint(n+7), 4*n+2, 1) }, outOfTicks(5000, 1)},
		// A recursion within resets, and one that is taken away at its end.
		{"(local (v1) (set! v1 (lambda (v2) (if (= v2 0) 7 (reset (+ 1 (v1 (- v2 1))))))) (v1 N))", 1249, func(n int) impl.Outcome { return done(fmt.Sprint(n+7), 4*n+2, 1) }, outOfTicks(5000, 1)},
		{"(local (v1) (set! v1 (lambda (v2) (if (= v2 0) (shift v3 7) (+ 1 (v1 (- v2 1)))))) (reset (v1 N)))", 1666, func(n int) impl.Outcome { return done("7", 3*n+2, 2) }, outOfTicks(5000, 1)},
		// A recursion that is done twice by a continuation.
		{"(local (v1) (set! v1 (lambda (v2) (if (= v2 0) (shift v3 (+ (v3 7) (v3 8))) (+ 1 (v1 (- v2 1)))))) (reset (v1 N)))", 999, func(n int) impl.Outcome { return done(fmt.Sprint(2*n+15), 5*n+5, 2) }, outOfTicks(5000, 2)},
		// A loop of continuations: each round is what was left to be done of the one before it.
		{"(local (v1) (set! v1 (lambda (v2) (if (= v2 0) 'end ((shift v3 (v3 v1)) (- v2 1))))) (reset (v1 N)))", 1249, func(n int) impl.Outcome { return done("end", 4*n+2, n+1) }, outOfTicks(5000, 1251)},
	} {
		rounds := func(n int) impl.Core { return term(t, strings.ReplaceAll(s.source, "N", fmt.Sprint(n))) }
		for _, n := range []int{0, 1, 2, 3, 10, 70} {
			checkOutcome(t, rounds(n), 5000, s.wanted(n))
		}
		for _, n := range []int{100, s.last - 1, s.last} {
			ticks := s.wanted(n).Ticks
			for _, budget := range []int{ticks, 5000} {
				if got := impl.EvaluateCore(rounds(n), budget); !sameOutcome(got, s.wanted(n)) {
					t.Errorf("%d rounds of %s have the outcome %s, not %s", n, s.source, showOutcome(got), showOutcome(s.wanted(n)))
				}
			}
			checkBudgets(t, rounds(n), []int{0, 1, 2, 17, ticks / 2, ticks - 1, ticks, min(ticks+1, 5000), 5000})
		}
		if got := impl.EvaluateCore(rounds(s.last+1), 5000); !sameOutcome(got, s.beyond) {
			t.Errorf("%d rounds of %s have the outcome %s, not %s", s.last+1, s.source, showOutcome(got), showOutcome(s.beyond))
		}
		if got := impl.EvaluateCore(rounds(999999999), 5000); got.Status != impl.StatusTicks || got.Ticks != 5000 {
			t.Errorf("%s with the greatest number has the outcome %s", s.source, showOutcome(got))
		}
	}
}

// made returns a term that makes this many pairs, without ticks, before it
// evaluates another one.
func made(pairs int, last impl.Core) impl.Core {
	var kids []impl.Core
	for left := pairs; left > 0; left -= min(left, 599) {
		kids = append(kids, constant(list(atoms(min(left, 599))...)))
	}
	return sequence(append(kids, last)...)
}

func TestMostObjects(t *testing.T) {
	for _, s := range []struct {
		source string
		made   int // how many objects the term makes
		wanted impl.Outcome
		beyond impl.Outcome // if there is room for one object less
	}{
		{"(cons 1 2)", 1, done("(1 . 2)", 1, 2000), full(1, 2000)}, {"(lambda () 1)", 1, done("#procedure", 0, 2000), full(0, 2000)}, {"(reset (shift v1 5))", 1, done("5", 0, 2000), full(0, 2000)}, {"'(a)", 1, done("(a)", 0, 2000), full(0, 2000)}, {"'(())", 1, done("(())", 0, 2000), full(0, 2000)},
		// With none of the pairs of a constant made.
		{"'(a b c)", 3, done("(a b c)", 0, 2000), full(0, 1998)}, {"'(((a)) (b))", 5, done("(((a)) (b))", 0, 2000), full(0, 1996)}, {"(begin '(a) '(a b c))", 4, done("(a b c)", 0, 2000), full(0, 1998)},
		{"(display (cons 1 '(2)))", 2, done("#void", 2, 2000, "(1 2)"), full(1, 2000)}, {"(display (begin (display 1) '(1)))", 1, done("#void", 2, 2000, "1", "(1)"), full(1, 2000, "1")}, {"(cons (lambda () 1) (reset (shift v1 v1)))", 3, done("(#procedure . #procedure)", 1, 2000), full(1, 2000)},
		{"(cons (cons 1 2) (1 2))", 1, failed("not a procedure", 2, 2000), full(1, 2000)}, {"((lambda (v1) (v1 v1)) 5)", 1, failed("not a procedure", 2, 2000), full(0, 2000)}, {"(reset (+ 1 (shift v1 (v1 (v1 3)))))", 1, done("5", 4, 2000), full(0, 2000)}, {"(cons (reset (+ 1 (shift v1 (v1 (v1 3))))) 0)", 2, done("(5 . 0)", 5, 2000), full(5, 2000)},
	} {
		c := term(t, s.source)
		checkOutcome(t, made(2000-s.made, c), 5000, s.wanted)
		checkOutcome(t, made(2001-s.made, c), 5000, s.beyond)
		if x := impl.EvaluateCore(c, 5000); x.Made != s.made {
			t.Errorf("%s makes %d objects", s.source, x.Made)
		}
	}
	// What makes no objects needs no room, and what stops for another reason stops for this one.
	checkEvaluationsWhenFull(t, []evaluationCase{
		{"'a", done("a", 0, 2000)}, {"'()", done("()", 0, 2000)}, {"\"a\"", done(`"a"`, 0, 2000)}, {"cons", done("#procedure", 0, 2000)}, {"(+ 1 2)", done("3", 1, 2000)}, {"(display 1)", done("#void", 1, 2000, "1")}, {"(local (v1 v2) (set! v1 1) (set! v2 v1) v2)", done("1", 0, 2000)}, {"(reset (if 1 2 3))", done("2", 0, 2000)},
		{"(shift v1 1)", failed("shift outside of reset", 0, 2000)}, {"(cons 1)", failed("wrong number of arguments", 1, 2000)}, {"(local (v1) (cons v1 1))", failed("variable is not assigned", 0, 2000)}, {"(begin (display 'a) (cons 1 2))", full(2, 2000, "a")}, {"(if (cons 1 2) (display 'a) 1)", full(1, 2000)}, {"(1 (lambda () 1))", full(0, 2000)},
	})
	checkOutcome(t, made(2000, term(t, "(cons 1 2)")), 0, outOfTicks(0, 2000))
	checkOutcome(t, made(2000, term(t, "(begin (display 1) (cons 1 2))")), 1, outOfTicks(1, 2000, "1"))
	checkOutcome(t, made(2000, term(t, "(cons 1 2)")), 1, full(1, 2000))
}

func checkEvaluationsWhenFull(t *testing.T, cases []evaluationCase) {
	t.Helper()
	for _, s := range cases {
		checkOutcome(t, made(2000, term(t, s.source)), 5000, s.wanted)
	}
}

// Objects of one kind that are made in a loop.
func TestManyObjects(t *testing.T) {
	loop := "(local (v1) (set! v1 (lambda (v2) (begin WORK (if (= v2 1) 'end (v1 (- v2 1)))))) (v1 N))"
	for _, s := range []struct {
		work              string
		ticks, made, last int
		beyond            impl.Outcome
	}{
		{"(if (lambda () 1) (lambda () 2) 3)", 3, 2, 999, full(2998, 2000)}, {"(reset (shift v3 (reset (shift v4 v3))))", 3, 2, 999, full(2998, 2000)}, {"(cons v2 (lambda () 1))", 4, 2, 999, full(3998, 2000)}, {"(cons v2 (cons 1 2))", 5, 2, 999, full(4998, 2000)},
		{"'(a b)", 3, 2, 999, full(2998, 1999)}, {"'(a b c d e)", 3, 5, 399, full(1198, 1996)}, {"(if '(a) (lambda () 1) 3)", 3, 2, 999, full(2998, 2000)}, {"(if '(a) '((b)) 3)", 3, 3, 666, full(1999, 2000)},
	} {
		rounds := func(n int) impl.Core {
			return term(t, strings.ReplaceAll(strings.ReplaceAll(loop, "WORK", s.work), "N", fmt.Sprint(n)))
		}
		for _, n := range []int{1, 7, 60} {
			checkOutcome(t, rounds(n), 5000, done("end", n*s.ticks-1, 1+n*s.made))
		}
		// As many rounds as there is room for, and more.
		for _, n := range []int{s.last - 1, s.last, s.last + 1, 999999999} {
			wanted := s.beyond
			if n <= s.last {
				wanted = done("end", n*s.ticks-1, 1+n*s.made)
			}
			if got := impl.EvaluateCore(rounds(n), 5000); !sameOutcome(got, wanted) {
				t.Errorf("%d rounds with %s have the outcome %s, not %s", n, s.work, showOutcome(got), showOutcome(wanted))
			}
		}
	}
}

func TestMostLines(t *testing.T) {
	lines := func(n int) []string { return slices.Repeat([]string{"a"}, n) }
	displays := func(n int, last impl.Core) impl.Core {
		kids := []impl.Core{}
		for range n - n/2 {
			kids = append(kids, applied("display", constant(symbol("a"))))
		}
		half := kids[:n/2]
		return sequence(node(impl.CoreReset, sequence(append(kids, constant(number(1)))...)), node(impl.CoreReset, sequence(append(half[:len(half):len(half)], constant(number(1)))...)), last)
	}
	for _, s := range []struct {
		source string
		before int
		wanted impl.Outcome
	}{
		{"(display 'a)", 58, done("#void", 59, 0, lines(59)...)}, {"(display 'a)", 59, done("#void", 60, 0, lines(60)...)}, {"(display 'a)", 60, full(61, 0, lines(60)...)}, {"(display (display 'a))", 60, full(61, 0, lines(60)...)}, {"(begin (display 'a) (display 'b))", 59, full(61, 0, lines(60)...)},
		{"5", 60, done("5", 60, 0, lines(60)...)}, {"(+ 1 2)", 60, done("3", 61, 0, lines(60)...)}, {"(cons 1 2)", 60, done("(1 . 2)", 61, 1, lines(60)...)}, {"(display)", 60, failed("wrong number of arguments", 61, 0, lines(60)...)}, {"(display (1))", 60, failed("not a procedure", 61, 0, lines(60)...)}, {"(display (cons 1 2))", 60, full(62, 1, lines(60)...)},
	} {
		checkOutcome(t, displays(s.before, term(t, s.source)), 5000, s.wanted)
		checkOutcome(t, displays(s.before, term(t, s.source)), s.wanted.Ticks, s.wanted)
	}
	checkOutcome(t, displays(60, term(t, "(display 'a)")), 60, outOfTicks(60, 0, lines(60)...))
	checkOutcome(t, displays(60, term(t, "(display 'a)")), 59, outOfTicks(59, 0, lines(59)...))
	// A loop that displays until there are no lines left.
	checkEvaluations(t, []evaluationCase{{"(local (v1) (set! v1 (lambda (v2) (begin (display 'a) (v1 v2)))) (v1 0))", full(122, 1, lines(60)...)}})
}

// Each line has as much text as there may be, of values that have more.
func TestLongLines(t *testing.T) {
	long := "(" + strings.TrimSuffix(strings.Repeat("\"a string\" ", 12), " ") + ")"
	source := "(local (v1 v2) (set! v1 '" + long + ") (set! v2 (lambda (v3) (begin (display v3) (v2 (cons v3 v3))))) (v2 v1))"
	x := checkAgainstSecond(t, term(t, source), 5000)
	if x.Status != impl.StatusFull || len(x.Output) != 60 {
		t.Errorf("the outcome is %s", showOutcome(x))
	}
	for i, line := range x.Output {
		if len(line) != 120 || line != (strings.Repeat("(", i) + long)[:120] {
			t.Errorf("line %d is %q", i, line)
		}
	}
}

// Evaluations that do much with few ticks.
func TestHeavyEvaluations(t *testing.T) {
	var reads, kids []impl.Core
	for i := range 50 {
		reads = append(reads, node(impl.CoreIf, useOf(i), useOf(i), useOf(0)))
	}
	for range 14 {
		kids = append(kids, node(impl.CoreReset, node(impl.CoreSequence, reads...)))
	}
	// A loop with a body of more than 2000 nodes.
	again := called(useOf(60), applied("-", useOf(61), constant(number(1))))
	body := node(impl.CoreIf, applied("=", useOf(61), constant(number(0))), constant(symbol("end")), node(impl.CoreSequence, append(kids, again)...))
	loop := func(n int) impl.Core {
		var start []impl.Core
		for i := range 50 {
			start = append(start, assignment(i, constant(number(i))))
		}
		start = append(start, assignment(60, procedure(from(61, 1), body)), called(useOf(60), constant(number(n))))
		return binder(impl.CoreLocal, append(from(0, 50), 60), start...)
	}
	checkOutcome(t, loop(20), 5000, done("end", 62, 1))
	if got := impl.EvaluateCore(loop(1666), 5000); !sameOutcome(got, done("end", 5000, 1)) {
		t.Errorf("a loop has the outcome %s", showOutcome(got))
	}
	// A continuation of many tasks that is applied many times.
	source := "(local (v1 v2 v3) (set! v1 (lambda (v4) (if (= v4 0) (shift v5 (set! v2 v5)) (begin (v1 (- v4 1)) 1 2 3 4 5 6 7 8 9)))) (reset (v1 500)) (set! v3 (lambda (v6) (if (= v6 0) 'end (begin (v2 0) (v3 (- v6 1)))))) (v3 N))"
	if got := impl.EvaluateCore(term(t, strings.ReplaceAll(source, "N", "3")), 5000); !sameOutcome(got, done("end", 3*500+2+4*3+2, 3)) {
		t.Errorf("a continuation has the outcome %s", showOutcome(got))
	}
	if got := impl.EvaluateCore(term(t, strings.ReplaceAll(source, "N", "800")), 5000); !sameOutcome(got, done("end", 3*500+2+4*800+2, 3)) {
		t.Errorf("a continuation has the outcome %s", showOutcome(got))
	}
}
