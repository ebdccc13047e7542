package tests

import (
	"fmt"
	"slices"
	"strings"
	"testing"

	"loop.example/g03220/impl"
)

// A passCase is a term with what one pass makes of it, and all passes, and how
// many rules they apply. An empty text stands for the one before it.
type passCase struct {
	source    string
	simpler   string
	rules     int
	optimized string
	all       int
}

func checkPasses(t *testing.T, cases []passCase) {
	t.Helper()
	for _, s := range cases {
		c := term(t, s.source)
		simpler := c
		if s.simpler != "" {
			simpler = term(t, s.simpler)
		}
		optimized := simpler
		if s.optimized != "" {
			optimized = term(t, s.optimized)
		}
		checkPass(t, c, simpler, s.rules)
		checkOptimized(t, c, optimized, s.all)
	}
}

func TestPassesOverEachKind(t *testing.T) {
	checkPasses(t, []passCase{
		{"5", "", 0, "", 0}, {"'(1 2)", "", 0, "", 0}, {"v1", "", 0, "", 0}, {"+", "", 0, "", 0}, {"(+ v1 v2)", "", 0, "", 0}, {"(lambda (v1) v1)", "", 0, "", 0}, {"(+ 1 'a)", "", 0, "", 0},
		// A rule at the root, and at each kid.
		{"(+ 1 2)", "3", 1, "", 1}, {"(if #f 1 2)", "2", 1, "", 1}, {"(begin 1 2)", "2", 1, "", 1}, {"((lambda (v1) v1) 2)", "2", 1, "", 1},
		{"(set! v1 (+ 1 2))", "(set! v1 3)", 1, "", 1}, {"(lambda (v1) (+ 1 2))", "(lambda (v1) 3)", 1, "", 1}, {"(reset (+ 1 2))", "(reset 3)", 1, "", 1}, {"(shift v1 (+ 1 2))", "(shift v1 3)", 1, "", 1}, {"(v1 (+ 1 2) (if 1 2 3) (begin 1 2))", "(v1 3 2 2)", 3, "", 3}, {"((if #t v1 v2) 5)", "(v1 5)", 1, "", 1},
		{"(if v1 (+ 1 2) (+ 3 4))", "(if v1 3 7)", 2, "", 2}, {"(if (v1 (+ 1 2)) 1 2)", "(if (v1 3) 1 2)", 1, "", 1}, {"(local (v1 v2) (+ 1 2) (if #t 3 4) (begin 5 6))", "(local (v1 v2) 3 3 6)", 3, "", 3}, {"(begin (v1 (+ 1 2)) (+ 3 4))", "(begin (v1 3) 7)", 2, "", 2},
		{"(lambda () (reset (shift v1 (set! v2 (v1 (if #f 1 (begin 2 (+ 1 2))))))))", "(lambda () (reset (shift v1 (set! v2 (v1 3)))))", 3, "", 3}, {"(local (v1) (local (v2) (+ 1 2)))", "(local (v1) (local (v2) 3))", 1, "", 1}, {"(reset (reset 1))", "", 0, "", 0},
		// Kids before the node, in one pass.
		{"(+ (+ 1 2) (+ 3 4))", "10", 3, "", 3}, {"(if (< 1 2) (+ 1 2) 0)", "3", 3, "", 3}, {"(if (not (= 1 1)) 'a (if (null? '()) 'b 'c))", "'b", 5, "", 5}, {"((lambda (v1) v1) (+ 1 2))", "3", 2, "", 2}, {"((lambda (v1 v2) (v2 v1)) (if 1 2 3) (begin 4 car))", "(car 2)", 3, "", 3}, {"((if #t (lambda (v1) v1) 2) 5)", "5", 2, "", 2},
		{"((begin 1 +) 2 3)", "5", 2, "", 2}, {"(((lambda () not)) #f)", "#t", 2, "", 2}, {"(((lambda (v1) (lambda (v2) v1)) 5) 6)", "5", 2, "", 2}, {"(begin (+ 1 2) v1)", "v1", 2, "", 2}, {"(begin (if 1 + 2) ((lambda () (lambda () 3))) v1)", "v1", 3, "", 3}, {"((lambda () ((lambda () ((lambda () 5))))))", "5", 3, "", 3},
		{"(+ (+ (+ (+ 1 2) 3) 4) 5)", "15", 4, "", 4}, {"(+ (+ 999999999 1) (+ 1 2))", "(+ (+ 999999999 1) 3)", 1, "", 1}, {"(car (cons (+ 1 2) '()))", "(car (cons 3 '()))", 1, "", 1},
		// What is left out later is simplified, and its rules count.
		{"(if #t 1 (+ 1 2))", "1", 2, "", 2}, {"(if #f (begin 1 2) 3)", "3", 2, "", 2}, {"(begin (lambda () (+ 1 2)) 3)", "3", 2, "", 2}, {"((lambda (v1) 5) (if 1 (+ 2 3) (+ 4 5)))", "5", 4, "", 4},
		// The result of a rule is not simplified in the same pass.
		{"((lambda (v1) (+ v1 1)) 2)", "(+ 2 1)", 1, "3", 2}, {"((lambda (v1) (v1 1 2)) +)", "(+ 1 2)", 1, "3", 2}, {"((lambda (v1) (if v1 2 3)) #f)", "(if #f 2 3)", 1, "3", 2}, {"((lambda (v1) (+ (+ v1 1) (* v1 5))) 2)", "(+ (+ 2 1) (* 2 5))", 1, "13", 4},
		{"((lambda (v1) ((lambda (v2) (+ v1 v2)) (+ v1 1))) 2)", "((lambda (v2) (+ 2 v2)) (+ 2 1))", 1, "5", 4}, {"((lambda (v1) ((lambda (v2) ((lambda (v3) (+ v3 1)) (+ v2 1))) (+ v1 1))) 2)", "((lambda (v2) ((lambda (v3) (+ v3 1)) (+ v2 1))) (+ 2 1))", 1, "5", 6},
		{"((lambda (v1) (lambda (v2) ((v1 (lambda (v3) v3)) v2))) not)", "(lambda (v2) ((not (lambda (v3) v3)) v2))", 1, "", 1}, {"((lambda (v1) (v1 5)) (if #t (lambda (v2) v2) 0))", "((lambda (v1) (v1 5)) (lambda (v2) v2))", 1, "", 1},
		{"(((lambda (v1) (lambda (v2) (+ v1 v2))) 1) 2)", "(+ 1 2)", 2, "3", 3}, {"((lambda (v1) (begin v1 (display v1))) 5)", "(begin 5 (display 5))", 1, "(display 5)", 2}, {"((lambda (v1) (begin (v1 1) v1 (v1 2))) display)", "(begin (display 1) display (display 2))", 1, "(begin (display 1) (display 2))", 2},
		{"((lambda (v1) ((lambda () (begin v1 v1)))) 5)", "(begin 5 5)", 2, "5", 3}, {"((lambda (v1) (begin v1 v1 7)) 5)", "(begin 5 5 7)", 1, "7", 2},
	})
}

// The lists boxed are those of the whole term, at the beginning of each pass.
func TestPassesWithBoxedVariables(t *testing.T) {
	checkPasses(t, []passCase{
		// Parameters as arguments, of each kind of binder.
		{"(lambda (v1) ((lambda (v2) (v2 v2)) v1))", "(lambda (v1) (v1 v1))", 1, "", 1}, {"(shift v1 ((lambda (v2) (v2 1)) v1))", "(shift v1 (v1 1))", 1, "", 1}, {"(local (v1) ((lambda (v2) (v2 1)) v1))", "", 0, "", 0}, {"((lambda (v2) (v2 1)) v1)", "", 0, "", 0}, {"(lambda (v3) ((lambda (v2) (v2 v3)) v1))", "", 0, "", 0},
		{"(lambda (v1 v3) ((lambda (v2 v4) (v4 v2)) v1 v3))", "(lambda (v1 v3) (v3 v1))", 1, "", 1}, {"(local (v1) (lambda (v3) ((lambda (v2) (v1 v2)) v3)))", "(local (v1) (lambda (v3) (v1 v3)))", 1, "", 1}, {"(local (v1) (lambda (v3) ((lambda (v2) (v3 v2)) v1)))", "", 0, "", 0},
		// Assigned ones, wherever this is.
		{"((lambda (v1) (set! v1 (quote 2))) (quote 4))", "", 0, "", 0}, {"((lambda (v1) (lambda () (set! v1 2))) 4)", "", 0, "", 0}, {"((lambda (v1 v2) (set! v2 v1)) 4 5)", "", 0, "", 0}, {"((lambda (v1) (begin (v3 v1) (set! v3 1))) 5)", "(begin (v3 5) (set! v3 1))", 1, "", 1},
		{"(lambda (v1) (begin (set! v1 5) ((lambda (v2) (v2 v2)) v1)))", "", 0, "", 0}, {"(lambda (v1) (begin ((lambda (v2) (v2 v2)) v1) (lambda () (set! v1 5))))", "", 0, "", 0}, {"(lambda (v1) (v1 ((lambda (v2) (v2 v2)) v1) (set! v1 5)))", "", 0, "", 0}, {"(lambda (v1) (v1 ((lambda (v2) (v2 v2)) v1) (set! v3 5)))", "(lambda (v1) (v1 (v1 v1) (set! v3 5)))", 1, "", 1},
		{"(shift v1 (begin (set! v1 0) ((lambda (v2) (v2 1)) v1)))", "", 0, "", 0}, {"(begin (lambda (v1) (set! v1 2)) ((lambda (v2) v2) 5))", "5", 2, "", 2},
		// A variable that is assigned at the beginning of the first pass only.
		{"((lambda (v1) (begin (if #f (set! v1 2) (display v1)) v1)) 4)", "((lambda (v1) (begin (display v1) v1)) 4)", 1, "(begin (display 4) 4)", 2}, {"(lambda (v1) (begin (if 1 v1 (set! v1 5)) ((lambda (v2) (v2 v2)) v1)))", "(lambda (v1) (begin v1 ((lambda (v2) (v2 v2)) v1)))", 1, "(lambda (v1) (begin v1 (v1 v1)))", 2},
		{"((lambda (v1) (begin (lambda () (set! v1 2)) v1)) 4)", "((lambda (v1) v1) 4)", 1, "4", 2}, {"((lambda (v1) (if #f (set! v1 2) ((lambda (v2) (if #f (set! v2 1) (+ v1 v2))) v1))) 3)", "((lambda (v1) ((lambda (v2) (+ v1 v2)) v1)) 3)", 2, "6", 5},
		{"(if #f (local (v1) ((lambda (v2) v2) v1)) ((lambda (v3) (if #t v3 (set! v3 1))) 5))", "((lambda (v3) v3) 5)", 2, "5", 3},
		// One after the other.
		{"((lambda (v1) (lambda (v2) ((lambda (v3) (v3 v1)) v2))) 5)", "(lambda (v2) (v2 5))", 2, "", 2}, {"(lambda (v1) ((lambda (v2) ((lambda (v3) (v3 v2 v1)) v2)) v1))", "(lambda (v1) (v1 v1 v1))", 2, "", 2}, {"(lambda (v5) ((lambda (v1) ((lambda (v2) ((lambda (v3) v3) v2)) v1)) v5))", "(lambda (v5) v5)", 3, "", 3},
		{"(lambda (v1) ((lambda (v2) (lambda (v1000) (v2 v1000))) v1))", "(lambda (v1) (lambda (v1000) (v1 v1000)))", 1, "", 1},
	})
}

func TestPassesOverSequences(t *testing.T) {
	checkPasses(t, []passCase{
		// A sequence in a sequence, at each place.
		{"(begin (if #t (begin v1 v2) 3) v3)", "(begin v1 v2 v3)", 1, "", 1}, {"(begin v1 (if #t (begin v2 v3) 0) v4)", "(begin v1 v2 v3 v4)", 1, "", 1}, {"(begin v1 (if #f 0 (begin v2 v3)))", "(begin v1 v2 v3)", 1, "", 1}, {"(begin (if #t (begin v1 v2) 0) (if #t (begin v3 v4) 0) (if #t (begin v5 v6) 0))", "(begin v1 v2 v3 v4 v5 v6)", 3, "", 3},
		{"(begin ((lambda () (begin v1 v2))) v3)", "(begin v1 v2 v3)", 1, "", 1}, {"(begin v1 ((lambda (v2) (begin (v1 v2) (v3 v2))) 5) v4)", "(begin v1 (v1 5) (v3 5) v4)", 1, "", 1}, {"(begin v1 (if v2 (begin v3 v4) 0) v5)", "", 0, "", 0}, {"(begin v1 (reset (begin v3 v4)) v5)", "", 0, "", 0},
		// Its last kid is no longer the last one.
		{"(begin (if #t (begin v1 5) 0) v2)", "(begin v1 v2)", 2, "", 2}, {"(begin (if #t (begin v1 (lambda () 2)) 0) (if #t (begin v2 +) 0) v3)", "(begin v1 v2 v3)", 3, "", 3}, {"(begin v1 (if #t (begin v2 5) 0))", "(begin v1 v2 5)", 1, "", 1}, {"(begin (if #t (begin 1 2) 0) 3)", "3", 3, "", 3}, {"(begin 1 (if #t (begin 2 3) 0))", "3", 3, "", 3},
		{"(begin 1 (if #t (begin (v1) 3) 0))", "(begin (v1) 3)", 2, "", 2}, {"(begin 1 2 (if #t (begin (v1) (v2)) 0))", "(begin (v1) (v2))", 2, "", 2},
		// Several levels deep.
		{"(begin (if #t (begin v1 (if #t (begin v2 (if #t (begin v3 v4) 0)) 0)) 0) v5)", "(begin v1 v2 v3 v4 v5)", 3, "", 3}, {"(begin v5 (if #t (begin (if #t (begin (if #t (begin v3 v4) 0) v2) 0) v1) 0))", "(begin v5 v3 v4 v2 v1)", 3, "", 3}, {"(begin v0 (if 1 (begin v1 (if 2 (begin v2 (if 3 (begin v3 v4) 0) v5) 0) v6) 0) v7)", "(begin v0 v1 v2 v3 v4 v5 v6 v7)", 3, "", 3},
		{"(begin ((lambda () (if #t ((lambda () (begin v1 v2))) 0))) v3)", "(begin v1 v2 v3)", 3, "", 3}, {"(begin (if #t (begin 1 (if #t (begin 2 (if #t (begin 3 4) 0)) 0)) 0) 5)", "5", 7, "", 7},
		// In a later pass.
		{"((lambda (v1) (begin (if v1 (begin v2 v3) 0) v4)) #t)", "(begin (if #t (begin v2 v3) 0) v4)", 1, "(begin v2 v3 v4)", 2}, {"((lambda (v1) (begin (if v1 (begin v2 v1) 0) v1 v4)) 'a)", "(begin (if 'a (begin v2 'a) 0) 'a v4)", 1, "(begin v2 v4)", 3},
		// Sequences in terms of other kinds stay there.
		{"(local (v1) (if #t (begin v2 v3) 0) v4)", "(local (v1) (begin v2 v3) v4)", 1, "", 1}, {"(v1 (if #t (begin v2 v3) 0))", "(v1 (begin v2 v3))", 1, "", 1}, {"(reset (if #t (begin v2 v3) 0))", "(reset (begin v2 v3))", 1, "", 1}, {"(if v1 (if #t (begin v2 v3) 0) ((lambda () (begin v4 v5))))", "(if v1 (begin v2 v3) (begin v4 v5))", 2, "", 2}, {"(set! v1 (if #t (begin v2 v3) 0))", "(set! v1 (begin v2 v3))", 1, "", 1},
		{"(lambda () (if #t (begin v2 v3) 0))", "(lambda () (begin v2 v3))", 1, "", 1}, {"(shift v1 (if #t (begin v2 v3) 0))", "(shift v1 (begin v2 v3))", 1, "", 1}, {"(if #t (if #t (begin v2 v3) 0) 0)", "(begin v2 v3)", 2, "", 2},
	})
}

// calls writes count applications of a variable.
func calls(variable, count int) string {
	return strings.Repeat(fmt.Sprintf(" (v%d)", variable), count)
}

// A sequence that gets too many kids stays as it was before the pass.
func TestPassesOverLongSequences(t *testing.T) {
	for _, more := range []int{-1, 0, 1, 2, 30} {
		for _, inner := range []int{2, 3, 30, 60} {
			// The sequence has 60 + more kids when those of the inner one are among them.
			outer := 60 + more - inner
			if outer < 1 || outer > 59 {
				continue
			}
			sources := []string{"(begin (if #t (begin INNER) 0) OUTER)", "(begin OUTER (if #f 0 (begin INNER)))", "(begin (v7) (if #t (begin INNER) 0) REST)", "(begin OUTER ((lambda () (begin INNER))))", "(begin (if #t (begin INNER) (begin 1 2)) OUTER)"}
			for _, source := range sources {
				fill := func(s string) impl.Core {
					return term(t, strings.NewReplacer("INNER", calls(8, inner), "OUTER", calls(7, outer), "REST", calls(7, outer-1)).Replace(s))
				}
				if strings.Contains(source, "REST") && outer < 2 {
					continue
				}
				before, after, rules := fill(source), fill(source), 0
				if more <= 0 {
					after = fill(strings.NewReplacer("(if #t (begin INNER) 0)", "INNER", "(if #f 0 (begin INNER))", "INNER", "((lambda () (begin INNER)))", "INNER", "(if #t (begin INNER) (begin 1 2))", "INNER").Replace(source))
					rules = 1 + strings.Count(source, "(begin 1 2)")
				}
				checkPass(t, before, after, rules)
				checkOptimized(t, before, after, rules)
				// Rules around it count, as those beside it do.
				checkOptimized(t, node(impl.CoreIf, constant(number(1)), before, constant(number(2))), after, rules+1)
				checkPass(t, called(useOf(1), applied("+", constants(2)...), before), called(useOf(1), constant(number(1)), after), rules+1)
			}
		}
	}
}

func TestSequencesThatStayAsTheyWere(t *testing.T) {
	full, tooMany := calls(8, 58), calls(8, 59)
	checkPasses(t, []passCase{
		// Rules that were applied within it don't count, at any depth, and what they did is taken back.
		{"(begin (if #t (begin (v1) (v2)) 0) (v3 (+ 1 2) (lambda () (if #t 1 2)))" + tooMany[:len(tooMany)-5] + ")", "", 0, "", 0}, {"(begin (+ 1 2) (if #t (begin (v1) (v2)) 0)" + full + ")", "", 0, "", 0}, {"(begin (if #t (begin (v1) (v2)) 0)" + tooMany + ")", "", 0, "", 0},
		{"(begin (if #t (begin (v1) (v2)) 0)" + full + ")", "(begin (v1) (v2)" + full + ")", 1, "", 1}, {"(begin (if #t (begin (v1 (+ 1 2)) (v2)) 0)" + full + ")", "(begin (v1 3) (v2)" + full + ")", 2, "", 2},
		// It is too many kids even if some of them would be left out.
		{"(begin 1 + (lambda () 1) (if #t (begin (v1) (v2)) 0)" + calls(8, 56) + ")", "", 0, "", 0}, {"(begin 1 + (lambda () 1) (if #t (begin (v1) (v2)) 0)" + calls(8, 55) + ")", "(begin (v1) (v2)" + calls(8, 55) + ")", 2, "", 2}, {"(begin (if #t (begin (v1) 5) 0)" + tooMany + ")", "", 0, "", 0}, {"(begin (if #t (begin (v1) 5) 0)" + full + ")", "(begin (v1)" + full + ")", 2, "", 2},
		// Those that are left out before its kids come in its place are none.
		{"(begin (if #t (begin 1 (v1) 2 (v2)) 0)" + full + ")", "(begin (v1) (v2)" + full + ")", 2, "", 2}, {"(begin (if #t (begin 1 2) 0)" + tooMany + ")", "(begin" + tooMany + ")", 3, "", 3}, {"(begin (if #t (begin 1 (v1)) 0)" + tooMany + ")", "(begin (v1)" + tooMany + ")", 2, "", 2},
		// Two sequences that are too many together only.
		{"(begin (if #t (begin" + calls(1, 30) + ") 0) (if #t (begin" + calls(2, 31) + ") 0))", "", 0, "", 0}, {"(begin (if #t (begin" + calls(1, 30) + ") 0) (if #t (begin" + calls(2, 30) + ") 0))", "(begin" + calls(1, 30) + calls(2, 30) + ")", 2, "", 2},
		// An inner one stays, and the outer one does not, and the other way round.
		{"(begin (v1) (if #t (begin (if #t (begin (v1) (v2)) 0)" + tooMany + ") 0))", "", 0, "", 0}, {"(begin (v1 (begin (if #t (begin (v1) (v2)) 0)" + tooMany + ")) (+ 1 2))", "(begin (v1 (begin (if #t (begin (v1) (v2)) 0)" + tooMany + ")) 3)", 1, "", 1},
		{"(begin (v1 (begin 1 (v2))) (if #t (begin (v3) (v4)) 0)" + full + ")", "", 0, "", 0}, {"(begin (v1 (begin 1 (v2))) (if #t (begin (v3) (v4)) 0)" + full[:len(full)-5] + ")", "(begin (v1 (v2)) (v3) (v4)" + full[:len(full)-5] + ")", 2, "", 2},
		// Others go on.
		{"(v1 (begin (if #t (begin (v1) (v2)) 0)" + tooMany + ") (+ 1 2) (if #t (begin 3 4) 5))", "(v1 (begin (if #t (begin (v1) (v2)) 0)" + tooMany + ") 3 4)", 3, "", 3}, {"((lambda () (begin (if #t (begin (v1) (v2)) 0)" + tooMany + ")))", "(begin (if #t (begin (v1) (v2)) 0)" + tooMany + ")", 1, "", 1},
		// It is no longer too many in a later pass: a parameter has become a constant.
		{"((lambda (v5) (begin (if #t (begin v5" + calls(1, 30) + ") 0)" + calls(2, 30) + ")) 7)", "(begin (if #t (begin 7" + calls(1, 30) + ") 0)" + calls(2, 30) + ")", 1, "(begin" + calls(1, 30) + calls(2, 30) + ")", 3},
		{"((lambda (v5) (begin (if v5 (begin (v1) (v2)) 0)" + tooMany + ")) 7)", "(begin (if 7 (begin (v1) (v2)) 0)" + tooMany + ")", 1, "", 1}, {"((lambda (v5) (begin (if v5 (begin (v1) (v2)) 0)" + tooMany + ")) #f)", "(begin (if #f (begin (v1) (v2)) 0)" + tooMany + ")", 1, "(begin" + tooMany + ")", 3},
		// The longest one.
		{"(begin" + calls(8, 60) + ")", "", 0, "", 0}, {"(begin (if #t (v1) 0)" + tooMany + ")", "(begin (v1)" + tooMany + ")", 1, "", 1},
	})
}

func TestOptimizeTermsThatAreNotValid(t *testing.T) {
	for _, c := range append(badCores(t), impl.Core{}, node(impl.CoreIf, constant(boolean(1)), constant(number(1)), useOf(-1)), term(t, "(begin 1 (begin 2 3))"), term(t, "((lambda (v1) v1) v1)")) {
		checkPass(t, c, impl.Core{}, 0)
		if got, n := impl.OptimizeCore(c); !isZeroCore(got) || n != 0 {
			t.Errorf("OptimizeCore(%s) = %s, %d", showCore(c), showCore(got), n)
		}
		// Nor is one in which it is a kid.
		checkOptimized(t, node(impl.CoreIf, constant(boolean(1)), constant(number(1)), c), impl.Core{}, 0)
	}
	for _, depth := range []int{40, 100, 151} {
		for _, optimize := range []func(c impl.Core) (impl.Core, int){impl.SimplifyCore, impl.OptimizeCore} {
			if got, n := optimize(branching(depth)); !isZeroCore(got) || n != 0 {
				t.Errorf("a term of 2^%d nodes is optimized to %s", depth, showCore(got))
			}
		}
	}
}

// chainOf returns an application of procedures within each other, each of which
// takes one more than the one around it, and the outermost one arg. With each
// pass, one more argument is known.
func chainOf(first, length int, arg impl.Core) impl.Core {
	more := func(n int) impl.Core { return applied("+", useOf(n), constant(number(1))) }
	c := more(first + length - 1)
	for n := first + length - 1; n > first; n-- {
		c = called(procedure([]int{n}, c), more(n-1))
	}
	return called(procedure([]int{first}, c), arg)
}

func TestManyPasses(t *testing.T) {
	for _, length := range []int{1, 2, 3, 10, 30, 74} {
		c := chainOf(1, length, constant(number(1)))
		if impl.DepthOfCore(c) != 2*length+2 {
			t.Fatalf("a chain of %d has the depth %d", length, impl.DepthOfCore(c))
		}
		checkOptimized(t, c, constant(number(length+1)), 2*length)
		for left := length; left > 0; left-- {
			simpler, rules := impl.SimplifyCore(c)
			if wanted := min(2, length-left+1); rules != wanted {
				t.Errorf("with %d procedures left, %d rules are applied, not %d", left, rules, wanted)
			}
			c = simpler
		}
		checkPass(t, c, constant(number(length+1)), 1)
	}
	// The greatest term of chains, each of which is the argument of another one.
	c, length, all := constant(number(1)), 70, 0
	for first := 0; impl.SizeOfCore(c)+6*length < 3000; first += length {
		c, all = chainOf(first, length, c), all+length
	}
	if !isGoodCore(c, nil) || all != 490 {
		t.Fatalf("%d procedures are no valid term", all)
	}
	if got, rules := impl.OptimizeCore(c); !sameCore(got, constant(number(all+1))) || rules != 2*all {
		t.Errorf("%d procedures become %s, with %d rules", all, showTerm(got), rules)
	}
}

func TestOptimizeLargeTerms(t *testing.T) {
	one := constant(number(1))
	for _, s := range []struct {
		c, wanted impl.Core
		rules     int
	}{
		// As many levels as there may be.
		{within(148, applied("not", constant(boolean(0)))), within(148, constant(boolean(1))), 1}, {within(149, one), within(149, one), 0}, {within(147, node(impl.CoreIf, applied("not", one), one, one)), within(147, one), 2},
		// As many nodes: sequences of constants in locals.
		{sized(3000), describedLast(sized(3000)), 1}, {node(impl.CoreIf, one, one, sized(2997)), one, 2},
		// As many kids and parameters.
		{binder(impl.CoreLocal, from(1, 60), slices.Repeat([]impl.Core{applied("not", one)}, 60)...), binder(impl.CoreLocal, from(1, 60), slices.Repeat([]impl.Core{constant(boolean(0))}, 60)...), 60},
		{called(append([]impl.Core{procedure(from(99992, 8), called(append([]impl.Core{word("cons")}, mapNumbers(from(99992, 8))...)...))}, constants(8)...)...), called(append([]impl.Core{word("cons")}, constants(8)...)...), 1},
	} {
		if !isGoodCore(s.c, nil) {
			t.Fatalf("%s is not valid", showTerm(s.c))
		}
		if got, rules := impl.OptimizeCore(s.c); !sameCore(got, s.wanted) || rules != s.rules {
			t.Errorf("OptimizeCore(%s) = %s, %d, not %s, %d", showTerm(s.c), showTerm(got), rules, showTerm(s.wanted), s.rules)
		}
	}
}

// describedLast leaves out the constants of a sequence but the last kid.
func describedLast(c impl.Core) impl.Core {
	c, _ = describedShorter(c)
	return c
}

func mapNumbers(variables []int) []impl.Core {
	var result []impl.Core
	for _, n := range variables {
		result = append(result, useOf(n))
	}
	return result
}

func TestOptimizeGoodCores(t *testing.T) {
	for _, good := range goodCores(t) {
		wanted, rules := describedOnce(good.c)
		checkPass(t, good.c, wanted, rules)
		wanted, rules = describedOptimum(good.c)
		checkOptimized(t, good.c, wanted, rules)
		checkNoLarger(t, good.c, wanted)
	}
}
