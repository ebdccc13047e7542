package tests

import (
	"slices"
	"testing"

	"loop.example/g03220/impl"
)

// closed puts c into a local that assigns its free variables, or into the body of
// a procedure that is applied to constants.
func (g *generator) closed(c impl.Core) impl.Core {
	free := describedFree(c)
	values := []impl.Core{constant(number(3)), word("car"), constant(list()), word("display"), procedure(nil, constant(symbol("a"))), constant(list(number(1), number(2)))}
	var args, kids []impl.Core
	for _, n := range free {
		v := values[g.below(len(values))]
		args, kids = append(args, v), append(kids, assignment(n, v))
	}
	if len(free) == 0 {
		return within(1, c)
	}
	if g.below(2) == 0 {
		return within(1, called(append([]impl.Core{procedure(free, c)}, args...)...))
	}
	return binder(impl.CoreLocal, free, append(kids, within(1, c))...)
}

func TestOptimizeAnyTerms(t *testing.T) {
	g := generator(233)
	all, passes, bad := 0, 0, 0
	for i := range 4000 {
		c := g.core(2 + i%3)
		switch i % 4 {
		case 1:
			c = g.obscured(c, 2)
		case 2:
			c = g.obscured(g.program(2+i%5), 1+i%6)
		}
		if i%10 == 0 {
			c = g.change(c)
		}
		wanted, rules := describedOnce(c)
		checkPass(t, c, wanted, rules)
		if !isGoodAlone(c) {
			bad++
			checkOptimized(t, c, impl.Core{}, 0)
			continue
		}
		checkNoLarger(t, c, wanted)
		optimum, more := describedOptimum(c)
		checkOptimized(t, c, optimum, more)
		checkNoLarger(t, wanted, optimum)
		all += more
		passes += count(more > rules)
	}
	if all < 10000 || passes < 100 || bad < 200 {
		t.Errorf("%d rules, %d terms of several passes, and %d terms that are not valid", all, passes, bad)
	}
}

// A term in which others were put that one rule makes the same again becomes
// what it was, with as many rules.
func TestOptimizeObscuredTerms(t *testing.T) {
	g := generator(239)
	all := 0
	for i := range 3000 {
		c := g.core(2 + i%3)
		if i%2 == 0 {
			c = g.program(2 + i%4)
		}
		c, _ = describedOptimum(c)
		obscured, rules := g.counted(c, 1+i%5)
		if !isGoodAlone(obscured) {
			continue
		}
		all += rules
		if got, n := impl.OptimizeCore(obscured); !sameCore(got, c) || n != rules {
			t.Errorf("OptimizeCore(%s) = %s, %d, not %s, %d", showTerm(obscured), showTerm(got), n, showTerm(c), rules)
		}
		checkOptimum(t, c)
	}
	if all < 10000 {
		t.Errorf("only %d rules are needed", all)
	}
}

// P8: an optimized program that ends has the same value, output and error, with
// no more ticks and objects.
func TestP8Programs(t *testing.T) {
	g := generator(241)
	status := map[int]int{}
	errors := map[string]int{}
	better, rules := 0, 0
	for i := range 4000 {
		c := g.program(2 + i%5)
		switch i % 4 {
		case 0:
			c = g.obscured(c, 1+i%7)
		case 1:
			c = g.closed(g.obscured(g.core(2+i%3), 2))
		case 2:
			c = g.obscured(g.closed(g.core(2+i%3)), 2)
		}
		if !isGoodCore(c, nil) {
			continue
		}
		simpler, _ := impl.SimplifyCore(c)
		optimum, n := impl.OptimizeCore(c)
		rules += n
		for _, budget := range []int{g.below(40), 1000} {
			x := checkKeeps(t, c, simpler, budget)
			checkKeeps(t, simpler, optimum, budget)
			y := impl.EvaluateCore(optimum, budget)
			status[x.Status]++
			if hasEnded(x) && (y.Ticks < x.Ticks || y.Made < x.Made) {
				better++
			}
			if x.Status == impl.StatusError {
				errors[x.Text]++
			}
			if hasEnded(x) {
				// The ticks that it took are enough.
				checkKeeps(t, c, optimum, x.Ticks)
			}
		}
	}
	if status[impl.StatusDone] < 2000 || status[impl.StatusError] < 1000 || len(errors) < 10 || better < 1500 || rules < 10000 {
		t.Errorf("outcomes of each status: %v, errors: %v, %d better ones and %d rules", status, errors, better, rules)
	}
}

// P8: so it is with each rule alone, wherever it is applied.
func TestP8EachRule(t *testing.T) {
	g := generator(251)
	applied := map[int]int{}
	for i := range 1500 {
		c := g.obscured(g.program(2+i%4), 1+i%7)
		if i%3 == 0 {
			c = g.closed(g.obscured(g.core(2+i%3), 2))
		}
		if !isGoodCore(c, nil) {
			continue
		}
		boxed := slices.Concat(impl.BoxedVariables(c), impl.FreeVariables(c))
		for k, at := range nodesOf(&c) {
			simpler, ok := impl.SimplifyNode(*at, boxed)
			if !ok {
				continue
			}
			applied[at.Kind]++
			other := copiedCore(c)
			*nodesOf(&other)[k] = simpler
			for _, parent := range nodesOf(&other) {
				if parent.Kind == impl.CoreSequence {
					parent.Kids = inOneSequence(parent.Kids)
				}
			}
			if isGoodCore(other, nil) {
				checkKeeps(t, c, other, 300)
			}
		}
	}
	if applied[impl.CoreApply] < 1000 || applied[impl.CoreIf] < 1000 || applied[impl.CoreSequence] < 500 {
		t.Errorf("rules applied to nodes of each kind: %v", applied)
	}
}

// P8: terms with effects, errors and continuations, and what is left of them.
func TestP8Effects(t *testing.T) {
	for _, s := range []struct {
		source string
		before impl.Outcome
		after  impl.Outcome
	}{
		{"((lambda (v1) (+ v1 v1)) 5)", done("10", 2, 1), done("10", 0, 0)}, {"(begin (display 1) (if (not #f) (display 2) (display 3)) (display (+ 1 2)))", done("#void", 5, 0, "1", "2", "3"), done("#void", 3, 0, "1", "2", "3")},
		// Errors stay, and what comes before them.
		{"(begin (display (+ 1 2)) (car '()) (display 4))", failed("car: bad argument", 3, 0, "3"), failed("car: bad argument", 2, 0, "3")}, {"(+ 999999999 (+ 1 2))", failed("number too large", 2, 0), failed("number too large", 1, 0)}, {"(begin '(1 2) + (lambda () 1) (+ 1 'a))", failed("+: bad argument", 1, 3), failed("+: bad argument", 1, 0)},
		{"(local (v1) ((lambda (v2) 5) v1))", failed("variable is not assigned", 0, 1), failed("variable is not assigned", 0, 1)}, {"(local (v1) (begin v1 5))", failed("variable is not assigned", 0, 0), failed("variable is not assigned", 0, 0)}, {"(local (v1) (if #t 5 v1))", done("5", 0, 0), done("5", 0, 0)},
		{"((lambda (v1) (v1 2)) 1)", failed("not a procedure", 2, 1), failed("not a procedure", 1, 0)}, {"((lambda (v1) v1) 1 2)", failed("wrong number of arguments", 1, 1), failed("wrong number of arguments", 1, 1)}, {"((lambda (v1) (v1 1)) +)", failed("wrong number of arguments", 2, 1), failed("wrong number of arguments", 1, 0)}, {"(begin 1 (shift v1 2))", failed("shift outside of reset", 0, 0), failed("shift outside of reset", 0, 0)},
		// The order of arguments and effects, and values that change.
		{"(cons (display 1) (cons ((lambda () (display 2))) (display 3)))", done("(#void #void . #void)", 6, 3, "1", "2", "3"), done("(#void #void . #void)", 5, 2, "1", "2", "3")}, {"(local (v1) (set! v1 1) ((lambda (v2) (begin (set! v1 5) v2)) v1))", done("1", 1, 1), done("1", 1, 1)},
		{"((lambda (v1) ((lambda (v2) (begin (set! v1 5) (cons v1 v2))) v1)) 7)", done("(5 . 7)", 3, 3), done("(5 . 7)", 3, 3)}, {"((lambda (v1) ((lambda (v2) (cons v1 v2)) v1)) 7)", done("(7 . 7)", 3, 3), done("(7 . 7)", 1, 1)},
		// Constants with items are made each time; procedures are not the same.
		{"((lambda (v1) (eq? v1 v1)) '(1))", done("#t", 2, 2), done("#t", 2, 2)}, {"((lambda (v1) (eq? v1 v1)) 'a)", done("#t", 2, 1), done("#t", 0, 0)}, {"((lambda (v1) (eq? v1 v1)) (lambda () 1))", done("#t", 2, 2), done("#t", 2, 2)}, {"(eq? (lambda () 1) (lambda () 1))", done("#f", 1, 2), done("#f", 1, 2)}, {"((lambda (v1) (eq? v1 v1)) car)", done("#t", 2, 1), done("#t", 1, 0)},
		// Continuations.
		{"(reset (+ 1 (shift v1 ((lambda (v2) (v2 (v2 (+ 1 2)))) v1))))", done("5", 6, 2), done("5", 4, 1)}, {"(reset ((lambda (v1) (+ v1 v1)) (shift v2 (cons (v2 1) (v2 2)))))", done("(2 . 4)", 7, 3), done("(2 . 4)", 7, 3)}, {"(reset (begin (if #t (begin (shift v1 (begin (v1 1) (v1 2))) (display 'a)) 0) (display 'b) 7))", done("7", 6, 1, "a", "b", "a", "b"), done("7", 6, 1, "a", "b", "a", "b")},
		{"(reset ((lambda (v1) (begin (set! v1 (+ v1 1)) (shift v2 (cons (v2 0) (v2 0))) (set! v1 (+ v1 1)) v1)) 5))", done("(7 . 8)", 7, 3), done("(7 . 8)", 7, 3)},
	} {
		c := term(t, s.source)
		checkOutcome(t, c, 5000, s.before)
		optimum, _ := impl.OptimizeCore(c)
		checkOutcome(t, optimum, 5000, s.after)
		checkKeeps(t, c, optimum, s.before.Ticks)
	}
}

// A loop that ends within a budget, an output or a number of objects only when
// it is optimized.
func TestP8AtLimits(t *testing.T) {
	for _, s := range []struct {
		source string
		before int // the status, with 5000 ticks
	}{
		{"(local (v1) (set! v1 (lambda (v2) (if (= v2 0) 'end (v1 ((lambda (v3) (- v3 (+ 0 1))) v2))))) (v1 1600))", impl.StatusTicks}, {"(local (v1) (set! v1 (lambda (v2) (begin '(1 2 3) (if (= v2 0) 'end (v1 (- v2 1)))))) (v1 1000))", impl.StatusFull},
		{"(local (v1) (set! v1 (lambda (v2) (if (= v2 0) 'end (begin (v1 (- v2 1)) ((lambda () 5)))))) (v1 1250))", impl.StatusTicks},
	} {
		c := term(t, s.source)
		optimum, rules := impl.OptimizeCore(c)
		x, y := impl.EvaluateCore(c, 5000), impl.EvaluateCore(optimum, 5000)
		if x.Status != s.before || y.Status != impl.StatusDone || rules == 0 {
			t.Errorf("%s has the outcome %s, and with %d rules %s", s.source, showOutcome(x), rules, showOutcome(y))
		}
	}
}
