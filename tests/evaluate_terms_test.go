package tests

import (
	"strings"
	"testing"

	"loop.example/g03220/impl"
)

func TestEvaluateEachKind(t *testing.T) {
	checkEvaluations(t, []evaluationCase{
		{"'a", done("a", 0, 0)}, {"7", done("7", 0, 0)}, {"'()", done("()", 0, 0)}, {"#f", done("#f", 0, 0)}, {`"a b"`, done(`"a b"`, 0, 0)}, {"'(1 (a \"b\") #t)", done(`(1 (a "b") #t)`, 0, 5)},
		{"+", done("#procedure", 0, 0)}, {"display", done("#procedure", 0, 0)}, {"(lambda () 1)", done("#procedure", 0, 1)}, {"(lambda (v1) (v1 (lambda (v2) 1)))", done("#procedure", 0, 1)},
		{"(local (v1) (set! v1 3))", done("#void", 0, 0)}, {"(local (v1) (set! v1 3) v1)", done("3", 0, 0)}, {"(local (v1) (set! v1 3) (set! v1 4) v1)", done("4", 0, 0)}, {"(local (v1) (set! v1 (set! v1 3)) v1)", done("#void", 0, 0)},
		{"(local (v1 v2) (set! v1 3) (set! v2 v1) (set! v1 5) (cons v1 v2))", done("(5 . 3)", 1, 1)}, {"(local (v1) 1 2 3)", done("3", 0, 0)}, {"(local (v1) 1)", done("1", 0, 0)},
		{"(if #f 1 2)", done("2", 0, 0)}, {"(if #t 1 2)", done("1", 0, 0)}, {"(if 0 1 2)", done("1", 0, 0)}, {"(if '() 1 2)", done("1", 0, 0)}, {"(if \"\" 1 2)", done("1", 0, 0)}, {"(if (local (v1) (set! v1 #f)) 1 2)", done("1", 0, 0)},
		{"(if (not 1) 1 2)", done("2", 1, 0)}, {"(if 'a (display 1) (display 2))", done("#void", 1, 0, "1")}, {"(if #f (display 1) (display 2))", done("#void", 1, 0, "2")},
		{"(begin 1 2)", done("2", 0, 0)}, {"(begin (display 1) (display 2) (display 3) 4)", done("4", 3, 0, "1", "2", "3")}, {"(begin 'a (if #t (begin (display 1) 2) 3))", done("2", 1, 0, "1")},
		{"(reset 1)", done("1", 0, 0)}, {"(reset (reset (begin 1 2)))", done("2", 0, 0)}, {"(reset (shift v1 1))", done("1", 0, 1)}, {"(reset (shift v1 v1))", done("#procedure", 0, 1)},
		{"(+ 1 2)", done("3", 1, 0)}, {"((lambda (v1 v2) (- v1 v2)) 1 2)", done("-1", 2, 1)}, {"((lambda () 5))", done("5", 1, 1)}, {"((lambda (v1) (set! v1 (+ v1 1))) 5)", done("#void", 2, 1)}, {"((lambda (v1) (begin (set! v1 (+ v1 1)) v1)) 5)", done("6", 2, 1)},
		{"((lambda (v1 v2 v3 v4 v5 v6 v7 v8) (cons v8 (cons v1 v5))) 1 2 3 4 5 6 7 8)", done("(8 1 . 5)", 3, 3)}, {"((if #t + -) 1 2)", done("3", 1, 0)}, {"(((lambda (v1) (lambda (v2) (- v1 v2))) 1) 2)", done("-1", 3, 2)},
	})
}

func TestEvaluatePrimitives(t *testing.T) {
	checkEvaluations(t, []evaluationCase{
		{"(- 5 7)", done("-2", 1, 0)}, {"(* 5 7)", done("35", 1, 0)}, {"(= 5 5)", done("#t", 1, 0)}, {"(= 5 6)", done("#f", 1, 0)}, {"(< 5 6)", done("#t", 1, 0)}, {"(< 6 6)", done("#f", 1, 0)}, {"(cons 1 2)", done("(1 . 2)", 1, 1)}, {"(cons 1 '())", done("(1)", 1, 1)}, {"(cons '(1) '(2 3))", done("((1) 2 3)", 1, 4)},
		{"(car '(1 2))", done("1", 1, 2)}, {"(cdr '(1 2))", done("(2)", 1, 2)}, {"(cdr (cons 1 2))", done("2", 2, 1)}, {"(car (car '(((a)))))", done("(a)", 2, 3)}, {"(null? '())", done("#t", 1, 0)}, {"(null? '(1))", done("#f", 1, 1)}, {"(pair? '(1))", done("#t", 1, 1)}, {"(pair? '())", done("#f", 1, 0)},
		{"(number? 5)", done("#t", 1, 0)}, {"(number? 'a)", done("#f", 1, 0)}, {"(eq? 'a 'a)", done("#t", 1, 0)}, {"(eq? 'a \"a\")", done("#f", 1, 0)}, {"(eq? '(1) '(1))", done("#f", 1, 2)}, {"(eq? + +)", done("#t", 1, 0)}, {"(eq? + -)", done("#f", 1, 0)}, {"(not #f)", done("#t", 1, 0)}, {"(not '())", done("#f", 1, 0)},
		{"(display 'a)", done("#void", 1, 0, "a")}, {"(display \"a b\")", done("#void", 1, 0, `"a b"`)}, {"(display '(1 . 2))", done("#void", 1, 3, "(1 . 2)")}, {"(display (cons 1 2))", done("#void", 2, 1, "(1 . 2)")}, {"(display (display 1))", done("#void", 2, 0, "1", "#void")}, {"(display display)", done("#void", 1, 0, "#procedure")},
		{"(display (lambda () 1))", done("#void", 1, 1, "#procedure")}, {"(reset (+ 1 (shift v1 (display v1))))", done("#void", 1, 1, "#procedure")}, {"(+ 999999999 0)", done("999999999", 1, 0)}, {"(- -999999999 0)", done("-999999999", 1, 0)},
	})
	// A dot within a constant is a symbol like any other.
	checkEvaluations(t, []evaluationCase{{"(cdr '(1 . 2))", done("(. 2)", 1, 3)}, {"(cons '. '.)", done("(. . .)", 1, 1)}})
}

func TestEvaluationErrors(t *testing.T) {
	checkEvaluations(t, []evaluationCase{
		{"(local (v1) v1)", failed("variable is not assigned", 0, 0)}, {"(local (v1) (set! v1 v1))", failed("variable is not assigned", 0, 0)}, {"(local (v1 v2) (set! v1 1) v1 v2 v1)", failed("variable is not assigned", 0, 0)}, {"(local (v1) (display 1) (+ 2 v1) (display 3))", failed("variable is not assigned", 1, 0, "1")},
		{"(1 2)", failed("not a procedure", 1, 0)}, {"('a)", failed("not a procedure", 1, 0)}, {"('() 1)", failed("not a procedure", 1, 0)}, {"('(1) 1)", failed("not a procedure", 1, 1)}, {"(#t)", failed("not a procedure", 1, 0)}, {"(\"a\" 1 2)", failed("not a procedure", 1, 0)}, {"((display 1) 2)", failed("not a procedure", 2, 0, "1")},
		{"(+)", failed("wrong number of arguments", 1, 0)}, {"(+ 1)", failed("wrong number of arguments", 1, 0)}, {"(+ 1 2 3)", failed("wrong number of arguments", 1, 0)}, {"(car)", failed("wrong number of arguments", 1, 0)}, {"(car 1 2)", failed("wrong number of arguments", 1, 0)}, {"(cons 1)", failed("wrong number of arguments", 1, 0)}, {"(cons 1 2 3)", failed("wrong number of arguments", 1, 0)}, {"(display)", failed("wrong number of arguments", 1, 0)},
		{"(display 1 2)", failed("wrong number of arguments", 1, 0)}, {"((lambda () 1) 2)", failed("wrong number of arguments", 1, 1)}, {"((lambda (v1) 1))", failed("wrong number of arguments", 1, 1)}, {"((lambda (v1) 1) 2 3)", failed("wrong number of arguments", 1, 1)}, {"((lambda (v1 v2) 1) 2)", failed("wrong number of arguments", 1, 1)}, {"(+ 'a)", failed("wrong number of arguments", 1, 0)},
		{"(reset (+ 1 (shift v1 (v1))))", failed("wrong number of arguments", 1, 1)}, {"(reset (+ 1 (shift v1 (v1 1 2))))", failed("wrong number of arguments", 1, 1)}, {"((lambda (v1 v2 v3 v4 v5 v6 v7 v8) 1) 1 2 3 4 5 6 7)", failed("wrong number of arguments", 1, 1)},
		{"(+ 1 'a)", failed("+: bad argument", 1, 0)}, {"(- \"\" 1)", failed("-: bad argument", 1, 0)}, {"(* 1 '(2))", failed("*: bad argument", 1, 1)}, {"(= 'a 'a)", failed("=: bad argument", 1, 0)}, {"(< #t 1)", failed("<: bad argument", 1, 0)}, {"(car '())", failed("car: bad argument", 1, 0)}, {"(cdr 1)", failed("cdr: bad argument", 1, 0)}, {"(car car)", failed("car: bad argument", 1, 0)},
		{"(+ 999999999 1)", failed("number too large", 1, 0)}, {"(- -999999999 1)", failed("number too large", 1, 0)}, {"(* 999999999 999999999)", failed("number too large", 1, 0)}, {"(begin (display 'a) (+ 1 (* 500000000 2)) (display 'b))", failed("number too large", 2, 0, "a")},
		{"(shift v1 1)", failed("shift outside of reset", 0, 0)}, {"(+ (display 1) (shift v1 1))", failed("shift outside of reset", 1, 0, "1")}, {"(begin (reset 1) (shift v1 1))", failed("shift outside of reset", 0, 0)},
	})
}

// An error in a kid comes before those of the kids behind it and of the node.
func TestFirstErrors(t *testing.T) {
	checkEvaluations(t, []evaluationCase{
		{"((display 1) (display 2) (display 3))", failed("not a procedure", 4, 0, "1", "2", "3")}, {"(1 (+ 1 'a))", failed("+: bad argument", 1, 0)}, {"(+ (1 2) (car 3))", failed("not a procedure", 1, 0)}, {"(+ (car 3) (1 2))", failed("car: bad argument", 1, 0)}, {"((car 3) (1 2))", failed("car: bad argument", 1, 0)},
		{"(local (v1) (v1 (1 2)))", failed("variable is not assigned", 0, 0)}, {"(local (v1) ((1 2) v1))", failed("not a procedure", 1, 0)}, {"(local (v1) (set! v1 (1 2)) v1)", failed("not a procedure", 1, 0)}, {"(local (v1) (set! v1 (begin (set! v1 2) (display v1) 3)) v1)", done("3", 1, 0, "2")},
		{"(if (1 2) (car 3) (car 4))", failed("not a procedure", 1, 0)}, {"(begin (1 2) (car 3))", failed("not a procedure", 1, 0)}, {"(local (v1) (1 2) (car 3))", failed("not a procedure", 1, 0)}, {"(reset (1 (shift v1 (car 3))))", failed("car: bad argument", 1, 1)}, {"(reset (begin (1 2) (shift v1 3)))", failed("not a procedure", 1, 0)},
		{"(+ (begin (display 1) 1) (begin (display 2) 2))", done("3", 3, 0, "1", "2")}, {"((begin (display 1) +) (begin (display 2) 1) (begin (display 3) 2))", done("3", 4, 0, "1", "2", "3")}, {"(local (v1) (set! v1 1) (- v1 (begin (set! v1 10) v1)))", done("-9", 1, 0)}, {"(local (v1) (set! v1 1) (- (begin (set! v1 10) v1) v1))", done("0", 1, 0)},
		{"(local (v1) (set! v1 +) (v1 (begin (set! v1 -) 1) 2))", done("3", 1, 0)},
	})
}

func TestPlaces(t *testing.T) {
	checkEvaluations(t, []evaluationCase{
		// Closures that share a place.
		{"(local (v1 v2 v3) (set! v1 0) (set! v2 (lambda () (set! v1 (+ v1 1)))) (set! v3 (lambda () v1)) (v2) (v2) (cons (v3) v1))", done("(2 . 2)", 6, 3)},
		{"((lambda (v1) (begin ((lambda (v2) (v2 (+ v1 1))) (lambda (v3) (set! v1 v3))) v1)) 5)", done("6", 4, 3)},
		// Closures that have places of their own.
		{"((lambda (v1) (cons (v1 1) (v1 2))) (lambda (v2) (begin (set! v2 (+ v2 v2)) v2)))", done("(2 . 4)", 6, 3)},
		{"(local (v1 v2 v3) (set! v1 (lambda (v4) (lambda () (begin (set! v4 (+ v4 1)) v4)))) (set! v2 (v1 10)) (set! v3 (v1 20)) (v2) (v2) (v3) (cons (v2) (v3)))", done("(13 . 22)", 13, 4)},
		// A variable of a procedure that calls itself has a place for each call.
		{"(local (v1) (set! v1 (lambda (v2) (if (= v2 0) '() (cons v2 (cons (v1 (- v2 1)) v2))))) (v1 2))", done("(2 (1 () . 1) . 2)", 12, 5)},
		// A local that is evaluated again is not assigned again.
		{"(local (v1) (set! v1 (lambda (v2) (local (v3) (if v2 (set! v3 5) 6) v3))) (display (v1 #t)) (v1 #f))", failed("variable is not assigned", 3, 1, "5")},
		{"(local (v1 v2) (set! v2 (lambda (v3) (local (v4) (set! v4 v3) (lambda () v4)))) (set! v1 (v2 1)) (v2 2) (v1))", done("1", 3, 3)},
		// The place of a variable is not that of the value that it had.
		{"((lambda (v1) ((lambda (v2) (begin (set! v1 2) (cons v1 v2))) v1)) 1)", done("(2 . 1)", 3, 3)}, {"((lambda (v1 v2) (begin (set! v1 v2) (set! v2 7) (cons v1 v2))) 1 2)", done("(2 . 7)", 2, 2)},
		// What a shift binds can be assigned, too.
		{"(reset (+ 1 (shift v1 (begin (set! v1 5) v1))))", done("5", 0, 1)},
		// Nodes around nodes, and beside them.
		{"((lambda (v9) ((lambda (v5 v7) ((lambda (v6) (cons (cons v9 v5) (cons v7 v6))) 4)) 2 3)) 1)", done("((1 . 2) 3 . 4)", 6, 6)}, {"(begin ((lambda (v3) v3) 1) ((lambda (v2) v2) 2) (local (v1) ((lambda () (begin (set! v1 3) v1)))))", done("3", 3, 3)},
		{"((lambda (v1) ((lambda () ((lambda (v2) (cons v1 v2)) 2)))) 1)", done("(1 . 2)", 4, 4)}, {"(local (v99999 v0) (set! v0 1) (set! v99999 2) (cons v0 v99999))", done("(1 . 2)", 1, 1)},
	})
}

func TestConstantsAreMadeAgain(t *testing.T) {
	checkEvaluations(t, []evaluationCase{
		{"((lambda (v1) (eq? (v1) (v1))) (lambda () '(a)))", done("#f", 4, 4)}, {"((lambda (v1) (eq? (v1) (v1))) (lambda () '()))", done("#t", 4, 2)}, {"((lambda (v1) (eq? (v1) (v1))) (lambda () \"a\"))", done("#t", 4, 2)}, {"((lambda (v1) (eq? v1 v1)) '(a))", done("#t", 2, 2)},
		{"(local (v1) (set! v1 (lambda (v2) (if (= v2 0) 'end (begin '(a b (c)) (v1 (- v2 1)))))) (v1 3))", done("end", 11, 13)},
	})
}

// Closures and continuations are equal if they are the same one.
func TestProceduresAreEqual(t *testing.T) {
	checkEvaluations(t, []evaluationCase{
		{"(eq? (lambda () 1) (lambda () 1))", done("#f", 1, 2)}, {"((lambda (v1) (eq? v1 v1)) (lambda () 1))", done("#t", 2, 2)}, {"((lambda (v1) (eq? (v1) (v1))) (lambda () (lambda () 1)))", done("#f", 4, 4)}, {"((lambda (v1) (eq? v1 (v1))) (lambda () (lambda () 1)))", done("#f", 3, 3)},
		{"(reset (shift v1 (eq? v1 v1)))", done("#t", 1, 1)}, {"(reset (shift v1 (eq? v1 (lambda () 1))))", done("#f", 1, 2)}, {"(eq? (reset (shift v1 v1)) (reset (shift v2 v2)))", done("#f", 1, 2)}, {"(eq? (lambda () 1) (reset (shift v2 v2)))", done("#f", 1, 2)},
		{"(eq? (reset (shift v2 v2)) (lambda () 1))", done("#f", 1, 2)}, {"(reset (begin (lambda () 1) (shift v1 (shift v2 (eq? v1 v2)))))", done("#f", 1, 3)}, {"(eq? + (lambda () 1))", done("#f", 1, 1)}, {"(eq? (lambda () 1) 0)", done("#f", 1, 1)}, {"(eq? (lambda () 1) (cons 1 2))", done("#f", 2, 2)},
		{"((lambda (v1 v2) (cons (eq? v1 v2) (eq? v2 v2))) (lambda () 1) (lambda () 1))", done("(#f . #t)", 4, 4)}, {"(display (cons (lambda () 1) (reset (shift v1 v1))))", done("#void", 2, 3, "(#procedure . #procedure)")}, {"(eq? (local (v1) (set! v1 1)) (local (v2) (set! v2 2)))", done("#t", 1, 0)},
	})
}

func TestNoEvaluation(t *testing.T) {
	budgets := []int{-1, 5001, 5002, leastInt, greatestInt, 1 << 32, -5000}
	for _, good := range goodCores(t) {
		for _, budget := range budgets {
			if got := impl.EvaluateCore(good.c, budget); !isZeroOutcome(got) {
				t.Errorf("EvaluateCore(%s, %d) = %s", showTerm(good.c), budget, showOutcome(got))
			}
		}
		checkAgainstSecond(t, good.c, 0)
		checkAgainstSecond(t, good.c, 5000)
		if free := describedFree(good.c); len(free) > 0 && !isZeroOutcome(impl.EvaluateCore(good.c, 5000)) {
			t.Errorf("EvaluateCore(%s) with the globals %v is %s", showTerm(good.c), free, showOutcome(impl.EvaluateCore(good.c, 5000)))
		}
	}
	for _, c := range append(badCores(t), terms(t, "v1 (+ 1 v1) (begin 1 v1) (lambda (v1) v2) (begin (lambda (v1) v1) v1) (set! v1 2) (if #t 1 v1) (local (v1) (set! v2 1))")...) {
		for _, budget := range append(budgets, 0, 1, 5000) {
			if got := impl.EvaluateCore(c, budget); !isZeroOutcome(got) {
				t.Errorf("EvaluateCore(%s, %d) = %s", showCore(c), budget, showOutcome(got))
			}
		}
	}
	if got := impl.EvaluateCore(branching(100), 5000); !isZeroOutcome(got) {
		t.Errorf("a term of too many nodes has the outcome %s", showOutcome(got))
	}
}

// Terms of any kind, good or not.
func TestEvaluateAnyTerms(t *testing.T) {
	g := generator(17)
	ended := map[int]int{}
	for range 3000 {
		c := g.core(3)
		closed := called(procedure(from(1, 4), c), constant(number(1)), primitive(g.below(14)), procedure(from(9990, 1), useOf(9990)), constant(list(number(2))))
		for _, c := range []impl.Core{c, closed, within(1, closed), g.change(closed), g.anyCore(3)} {
			x := checkAgainstSecond(t, c, g.below(300))
			ended[x.Status]++
		}
	}
	for status, least := range map[int]int{impl.StatusRunning: 1000, impl.StatusDone: 2000, impl.StatusError: 2000, impl.StatusTicks: 20} {
		if ended[status] < least {
			t.Errorf("only %d outcomes have the status %d", ended[status], status)
		}
	}
}

// The greatest terms that there are.
func TestEvaluateGreatTerms(t *testing.T) {
	checkOutcome(t, sized(3000), 5000, done("9", 0, 0))
	checkOutcome(t, within(149, constant(symbol("a"))), 0, done("a", 0, 0))
	deep := constant(number(0))
	for range 148 {
		deep = called(primitive(0), deep, constant(number(1)))
	}
	checkOutcome(t, deep, 148, done("148", 148, 0))
	checkOutcome(t, deep, 147, outOfTicks(147, 0))
	long := "(" + strings.TrimSuffix(strings.Repeat("abcdefg ", 20), " ") + ")"
	checkOutcome(t, called(word("display"), constant(mustParseOne(t, long))), 1, done("#void", 1, 20, long[:120]))
	checkOutcome(t, constant(mustParseOne(t, long)), 0, done(long[:120], 0, 20))
	checkOutcome(t, constant(list(atoms(599)...)), 0, done(impl.FormatDatum(list(atoms(599)...))[:120], 0, 599))
}
