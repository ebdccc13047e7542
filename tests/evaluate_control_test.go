package tests

import (
	"slices"
	"testing"

	"loop.example/g03220/impl"
)

func TestShiftWithinResets(t *testing.T) {
	checkEvaluations(t, []evaluationCase{
		{"(reset (+ 1 (shift v1 2)))", done("2", 0, 1)}, {"(+ 1 (reset (+ 10 (shift v1 2))))", done("3", 1, 1)}, {"(+ 1 (reset (+ 10 (shift v1 (v1 2)))))", done("13", 3, 1)}, {"(reset (+ 1 (reset (+ 10 (shift v1 (shift v2 5))))))", done("6", 1, 2)},
		{"(reset (cons 1 (reset (cons 2 (shift v1 (cons 3 (v1 '())))))))", done("(1 3 2)", 4, 4)}, {"(reset (cons 1 (reset (cons 2 (shift v1 '())))))", done("(1)", 1, 2)}, {"(reset (cons 1 (reset (cons 2 (shift v1 (shift v2 (cons (v1 3) (v1 4))))))))", done("(1 (2 . 3) 2 . 4)", 6, 6)},
		// What is taken away ends at the nearest reset that is being evaluated, not the one around in the text.
		{"((lambda (v1) (reset (+ 1 (v1)))) (lambda () (shift v2 (v2 (v2 5)))))", done("7", 6, 3)}, {"((lambda (v1) (+ 1 (v1))) (lambda () (shift v2 5)))", failed("shift outside of reset", 2, 2)}, {"((reset (lambda () (shift v2 5))))", failed("shift outside of reset", 1, 1)},
		{"(reset ((reset (lambda () (begin (display 1) (shift v2 5) (display 2))))))", done("5", 2, 2, "1")}, {"(reset (cons 1 ((reset (lambda () (shift v2 (v2 5)))))))", done("(1 . 5)", 3, 3)}, {"(begin (reset (shift v1 1)) (shift v2 2))", failed("shift outside of reset", 0, 1)},
		{"(begin (reset 1) (display 1) (reset (begin (reset 2) (shift v2 3) (display 2))))", done("3", 1, 1, "1")}, {"(local (v1) (set! v1 (lambda (v2) (if (= v2 0) (shift v3 'end) (cons v2 (v1 (- v2 1)))))) (cons 'a (reset (v1 4))))", done("(a . end)", 15, 3)},
		{"(local (v1) (set! v1 (lambda (v2) (if (= v2 0) (shift v3 (v3 '())) (cons v2 (v1 (- v2 1)))))) (cons 'a (reset (v1 3))))", done("(a 3 2 1)", 16, 6)},
		// The kid of a shift is evaluated within the reset.
		{"(reset (+ 1 (shift v1 (+ 10 (shift v2 (v2 (v1 2)))))))", done("13", 4, 2)}, {"(reset (begin (shift v1 (begin (shift v2 (begin (v2 0) (v1 0) 5)) (display 'a) 6)) (display 'b) 7))", done("5", 4, 2, "a", "b")},
		{"(cons (reset (shift v1 (shift v2 (shift v3 v1)))) 1)", done("(#procedure . 1)", 1, 4)},
	})
}

func TestContinuations(t *testing.T) {
	checkEvaluations(t, []evaluationCase{
		// Left out, applied once, and several times.
		{"(reset (begin (shift v1 1) (display 'a) 2))", done("1", 0, 1)}, {"(reset (begin (shift v1 (v1 1)) (display 'a) 2))", done("2", 2, 1, "a")}, {"(reset (begin (shift v1 (begin (v1 1) (v1 2) (v1 3))) (display 'a) 2))", done("2", 6, 1, "a", "a", "a")},
		{"(reset (+ 1 (shift v1 (* 10 (v1 2)))))", done("30", 3, 1)}, {"(reset (* (shift v1 (+ (v1 10) (v1 100))) 3))", done("330", 5, 1)},
		// Applied to what it gives.
		{"(reset (+ 1 (shift v1 (v1 (v1 (v1 0))))))", done("3", 6, 1)}, {"(reset (cons 1 (shift v1 (v1 (v1 '(0))))))", done("(1 1 0)", 4, 4)}, {"(reset ((shift v1 (v1 v1)) 5))", failed("not a procedure", 3, 1)}, {"(reset ((shift v1 (v1 (lambda (v2) (cons v2 v2)))) 5))", done("(5 . 5)", 3, 3)},
		{"(reset ((shift v1 (v1 (lambda (v2) (v1 (lambda (v3) (cons v2 v3)))))) 5))", done("(5 . 5)", 5, 4)},
		// Kept after the reset has ended, and applied outside of it.
		{"(local (v1) (reset (+ 1 (shift v2 (set! v1 v2)))) (v1 5))", done("6", 2, 1)}, {"(local (v1) (reset (+ 1 (shift v2 (begin (set! v1 v2) 0)))) (cons (v1 5) (v1 6)))", done("(6 . 7)", 5, 2)}, {"((reset (+ 1 (shift v1 v1))) 5)", done("6", 2, 1)}, {"(cons 0 ((reset (cons 1 (shift v1 v1))) 5))", done("(0 1 . 5)", 3, 3)},
		{"((reset (begin (shift v1 v1) (display 'a) (shift v2 v2) (display 'b) 7)) 5)", done("#procedure", 2, 2, "a")}, {"(((reset (begin (shift v1 v1) (display 'a) (shift v2 v2) (display 'b) 7)) 5) 6)", done("7", 4, 2, "a", "b")},
		// The reset of its own is that of a shift in what was taken away, and not of one behind it.
		{"(local (v1) (reset (begin (shift v2 (set! v1 v2)) (shift v3 7) (display 'no))) (cons 1 (v1 0)))", done("(1 . 7)", 2, 3)}, {"(local (v1) (reset (begin (shift v2 (set! v1 v2)) 5)) (v1 0) (shift v3 7))", failed("shift outside of reset", 1, 1)},
		{"(reset (begin (local (v1) (reset (begin (shift v2 (set! v1 v2)) (shift v3 7) (display 'no))) (cons 1 (v1 0))) (display 'yes)))", done("#void", 3, 3, "yes")}, {"(reset (cons 1 ((reset (begin (shift v1 v1) (shift v2 2))) 3)))", done("(1 . 2)", 2, 3)},
		// A procedure in what was taken away has its places.
		{"((lambda (v1) ((reset ((lambda (v2) (begin (shift v3 v3) (cons v1 v2))) 2)) 0)) 1)", done("(1 . 2)", 4, 4)},
	})
}

func TestShiftInEachKind(t *testing.T) {
	checkEvaluations(t, []evaluationCase{
		{"(reset ((shift v1 (cons (v1 +) (v1 -))) 5 3))", done("(8 . 2)", 5, 2)}, {"(reset (- (shift v1 (cons (v1 5) (v1 6))) 3))", done("(2 . 3)", 5, 2)}, {"(reset (- 3 (shift v1 (cons (v1 5) (v1 6)))))", done("(-2 . -3)", 5, 2)},
		{"(reset (cons (shift v1 (cons (v1 1) (v1 2))) (shift v2 (cons (v2 3) (v2 4)))))", done("(((1 . 3) 1 . 4) (2 . 3) 2 . 4)", 13, 10)}, {"(reset (cons (begin (display 'a) 1) (begin (shift v1 (begin (v1 0) (v1 0))) (display 'b) 2)))", done("(1 . 2)", 7, 3, "a", "b", "b")},
		{"(reset (if (shift v1 (cons (v1 #t) (v1 #f))) 1 2))", done("(1 . 2)", 3, 2)}, {"(reset (if #f 1 (shift v1 (cons (v1 1) 2))))", done("(1 . 2)", 2, 2)}, {"(reset (if 1 (begin (shift v1 (v1 2)) 3) 4))", done("3", 1, 1)},
		{"(reset (begin (display 'a) (shift v1 (begin (v1 0) (v1 0))) (display 'b) 5))", done("5", 5, 1, "a", "b", "b")}, {"(reset (begin (display 'a) (display 'b) (shift v1 (cons (v1 1) (v1 2)))))", done("(1 . 2)", 5, 2, "a", "b")},
		{"(local (v1) (reset (set! v1 (shift v2 (begin (v2 1) (v2 2) 0)))) v1)", done("2", 2, 1)}, {"(local (v1) (set! v1 7) (reset (set! v1 (shift v2 0))) v1)", done("7", 0, 1)}, {"(reset (reset (shift v1 (cons (v1 1) (v1 2)))))", done("(1 . 2)", 3, 2)},
		// The places are those that there were, and new ones for what is evaluated again.
		{"(reset (local (v1) (set! v1 0) (shift v2 (begin (v2 0) (v2 0) (v2 0))) (set! v1 (+ v1 1)) v1))", done("3", 6, 1)}, {"((lambda (v1) (reset (begin (shift v2 (begin (v2 0) (v2 0))) (set! v1 (+ v1 1)) v1))) 10)", done("12", 5, 2)},
		{"(local (v9) (set! v9 '()) (reset (begin (shift v1 (begin (v1 0) (v1 0))) (local (v2) (if (null? v9) (set! v2 5) 0) (set! v9 1) v2))))", failed("variable is not assigned", 4, 1)},
		{"(reset ((lambda (v2) (begin (set! v2 (+ v2 1)) v2)) (shift v1 (cons (v1 10) (v1 10)))))", done("(11 . 11)", 7, 3)}, {"(reset (shift v1 (begin (set! v1 (cons 1 2)) v1)))", done("(1 . 2)", 1, 2)},
	})
}

// Programs that use continuations for something.
func TestUsesOfContinuations(t *testing.T) {
	checkEvaluations(t, []evaluationCase{
		// All choices of two elements.
		{"(local (v1 v2) (set! v1 (lambda (v3) (shift v4 (begin (v2 v4 v3) 'no)))) (set! v2 (lambda (v5 v6) (if (null? v6) 'no (begin (v5 (car v6)) (v2 v5 (cdr v6)))))) (reset (display (cons (v1 '(a b)) (v1 '(1 2 3))))) 'end)", done("end", 61, 19, "(a . 1)", "(a . 2)", "(a . 3)", "(b . 1)", "(b . 2)", "(b . 3)")},
		// A list that is walked through and given out piece by piece.
		{"(local (v1 v2) (set! v1 (lambda (v3) (if (null? v3) '() (begin (shift v4 (cons (car v3) v4)) (v1 (cdr v3)))))) (set! v2 (lambda (v5) (if (null? v5) 'end (begin (display (car v5)) (v2 ((cdr v5) 0)))))) (v2 (reset (v1 '(a b c)))))", done("end", 37, 11, "a", "b", "c")},
		// A state that is kept by continuations.
		{"(local (v1 v2) (set! v1 (lambda () (shift v3 (lambda (v4) ((v3 v4) v4))))) (set! v2 (lambda (v5) (shift v6 (lambda (v7) ((v6 0) v5))))) ((reset ((lambda (v8) (lambda (v9) v8)) (begin (v2 (+ 1 (v1))) (* 2 (v1))))) 20))", done("42", 13, 10)},
	})
}

// A frame is what is done with a value: its term has the value in a hole. All
// that stands before the hole has no effect.
type frame struct {
	kind int
	n    int
}

type frameMaker struct {
	termMaker
	closures int // how many are made before the hole
}

func (m *frameMaker) fill(f frame, hole impl.Core) impl.Core {
	n := constant(number(f.n))
	shown := func(s string) impl.Core { return applied("display", constant(symbol(s))) }
	variable := m.binder()
	switch f.kind {
	case 0:
		return applied("+", n, hole)
	case 1:
		return applied("-", hole, n)
	case 2:
		return node(impl.CoreIf, hole, sequence(shown("then"), n), n)
	case 3:
		return node(impl.CoreIf, applied("<", hole, n), sequence(shown("less"), constant(number(1))), applied("*", n, n))
	case 4:
		return sequence(hole, shown("first"), n)
	case 5:
		return sequence(applied("display", hole), n)
	case 6:
		m.closures++
		return called(procedure([]int{variable}, sequence(applied("display", useOf(variable)), applied("+", useOf(variable), useOf(variable)))), hole)
	case 7:
		return binder(impl.CoreLocal, []int{variable}, assignment(variable, hole), applied("display", useOf(variable)), applied("+", useOf(variable), n))
	case 8:
		return binder(impl.CoreLocal, []int{variable}, hole)
	case 9:
		return applied("car", applied("cons", hole, shown("behind")))
	}
	return sequence(constant(symbol("a")), node(impl.CoreIf, n, hole, shown("else")))
}

// filled returns frames, the first one within the others, around a hole.
func (m *frameMaker) filled(frames []frame, hole impl.Core) impl.Core {
	for _, f := range frames {
		hole = m.fill(f, hole)
	}
	return hole
}

// A law has two terms that do the same, but for a number of ticks and objects.
type law struct {
	name        string
	left, right impl.Core
	ticks, made int
}

// laws returns what holds for some frames and numbers.
func (g *generator) laws() []law {
	m := &frameMaker{termMaker: termMaker{generator: g, binders: g.below(1000)}}
	var frames, outer []frame
	for range 1 + g.below(4) {
		frames = append(frames, frame{g.below(11), g.below(9) - 4})
		outer = append(outer, frame{g.below(11), g.below(9) - 4})
	}
	a, b := constant(number(g.below(9)-4)), constant(number(g.below(9)-4))
	m.filled(frames, a)
	before := m.closures
	k := useOf(m.binder())
	shift := func(body impl.Core) impl.Core {
		k = useOf(m.binder())
		return binder(impl.CoreShift, []int{k.Number}, body)
	}
	shifted := func(body func() impl.Core) impl.Core {
		c := shift(impl.Core{})
		c.Kids[0] = body()
		return within(1, m.filled(frames, c))
	}
	plain := func(hole impl.Core) impl.Core { return within(1, m.filled(frames, hole)) }
	kept := func(body func(kept impl.Core) impl.Core) impl.Core {
		keep := m.binder()
		c := shift(impl.Core{})
		c.Kids[0] = assignment(keep, k)
		return binder(impl.CoreLocal, []int{keep}, within(1, m.filled(frames, c)), body(useOf(keep)))
	}
	cons := func(a, b impl.Core) impl.Core { return applied("cons", a, b) }
	first, second := m.binder(), m.binder()
	inner := m.filled(outer, binder(impl.CoreShift, []int{second}, called(useOf(second), a)))
	twoShifts := within(1, m.filled(frames, sequence(binder(impl.CoreShift, []int{first}, called(useOf(first), b)), inner)))
	return []law{
		{"left out", shifted(func() impl.Core { return a }), a, 0, 1 + before},
		{"applied once", shifted(func() impl.Core { return called(k, a) }), plain(a), 1, 1},
		{"applied twice", shifted(func() impl.Core { return cons(called(k, a), called(k, b)) }), cons(plain(a), plain(b)), 2, 1 - before},
		{"applied within itself", shifted(func() impl.Core { return called(k, called(k, a)) }), plain(plain(a)), 2, 1 - before},
		{"within another reset", within(1, m.filled(outer, shifted(func() impl.Core { return called(k, a) }))), within(1, m.filled(outer, plain(a))), 1, 1},
		{"within frames outside", shifted(func() impl.Core { return m.filled(outer, called(k, a)) }), m.filled(outer, plain(a)), 1, 1},
		{"kept", kept(func(kept impl.Core) impl.Core { return cons(called(kept, a), called(kept, b)) }), cons(plain(a), plain(b)), 2, 1 - before},
		{"kept, within frames", kept(func(kept impl.Core) impl.Core { return m.filled(outer, called(kept, a)) }), m.filled(outer, plain(a)), 1, 1},
		{"of two shifts", twoShifts, within(1, m.filled(frames, sequence(b, m.filled(outer, a)))), 2, 2},
	}
}

func TestContinuationsDoWhatWasLeft(t *testing.T) {
	g := generator(19)
	ended := map[int]int{}
	for range 1500 {
		for _, l := range g.laws() {
			left, right := checkAgainstSecond(t, l.left, 5000), checkAgainstSecond(t, l.right, 5000)
			ended[left.Status]++
			same := left.Status == right.Status && left.Text == right.Text && slices.Equal(left.Output, right.Output)
			if left.Status == impl.StatusDone {
				same = same && left.Ticks == right.Ticks+l.ticks && left.Made == right.Made+l.made
			}
			if !same {
				t.Errorf("a continuation that is %s: %s has %s, but %s has %s", l.name, showTerm(l.left), showOutcome(left), showTerm(l.right), showOutcome(right))
			}
		}
	}
	if ended[impl.StatusDone] < 8000 || ended[impl.StatusRunning] > 0 {
		t.Errorf("outcomes of each status: %v", ended)
	}
}
