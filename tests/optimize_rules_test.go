package tests

import (
	"slices"
	"testing"

	"loop.example/g03220/impl"
)

// A ruleCase is a term with what a rule makes of it; none applies if this is
// empty.
type ruleCase struct{ source, boxed, wanted string }

func checkNodes(t *testing.T, cases []ruleCase) {
	t.Helper()
	for _, s := range cases {
		wanted := impl.Core{}
		if s.wanted != "" {
			wanted = term(t, s.wanted)
		}
		checkNode(t, term(t, s.source), numbersIn(t, s.boxed), wanted)
	}
}

var someBoxed = []string{"", "0", "1 2 3", "-1 5 5 99999 100000", "0 1 2 3 4 5 6 7 8 9 10 11 12 13"}

func TestSimplifyApplicationsOfPrimitives(t *testing.T) {
	for _, boxed := range someBoxed {
		for _, s := range foldCases {
			if s.wanted != "" {
				checkNodes(t, []ruleCase{{s.source, boxed, s.wanted}})
			}
		}
		checkNodes(t, []ruleCase{
			{"(cons 1 2)", boxed, ""}, {"(display 1)", boxed, ""}, {"(+ 1 'a)", boxed, ""}, {"(+ 1)", boxed, ""}, {"(+ 999999999 1)", boxed, ""}, {"(car '())", boxed, ""}, {"(car '(1))", boxed, ""}, {"(null? '(1))", boxed, ""}, {"(+ v1 v2)", boxed, ""}, {"(eq? + +)", boxed, ""},
			// Only the root is looked at.
			{"(+ (+ 1 2) 3)", boxed, ""}, {"(lambda () (+ 1 2))", boxed, ""}, {"(reset (+ 1 2))", boxed, ""}, {"(v1 (+ 1 2))", boxed, ""}, {"(set! v1 (+ 1 2))", boxed, ""}, {"(local (v1) (+ 1 2) (+ 3 4))", boxed, ""}, {"(shift v1 (+ 1 2))", boxed, ""}, {"((+ 1 2))", boxed, ""},
		})
	}
}

func TestSimplifyApplicationsOfProcedures(t *testing.T) {
	checkNodes(t, []ruleCase{
		// Arguments of each kind.
		{"((lambda (v1) v1) 5)", "", "5"}, {"((lambda (v1) v1) '())", "", "'()"}, {"((lambda (v1) v1) 'a)", "", "'a"}, {"((lambda (v1) v1) #f)", "", "#f"}, {"((lambda (v1) v1) \"a\")", "", "\"a\""}, {"((lambda (v1) (v1 2)) car)", "", "(car 2)"}, {"((lambda (v1) v1) v2)", "", "v2"},
		{"((lambda (v1) v1) '(1))", "", ""}, {"((lambda (v1) 5) '(1 2))", "", ""}, {"((lambda (v1) v1) (lambda (v2) v2))", "", ""}, {"((lambda (v1) v1) (lambda () 1))", "", ""}, {"((lambda (v1) 5) (+ 1 2))", "", ""}, {"((lambda (v1) 5) (v2))", "", ""}, {"((lambda (v1) 5) (if 1 2 3))", "", ""}, {"((lambda (v1) 5) (begin 1 2))", "", ""},
		{"((lambda (v1) 5) (set! v2 1))", "", ""}, {"((lambda (v1) 5) (local (v2) 1))", "", ""}, {"((lambda (v1) 5) (reset 1))", "", ""}, {"((lambda (v1) 5) (shift v2 1))", "", ""},
		// Elements of boxed: a parameter, an argument, and others, which do not matter.
		{"((lambda (v1) v1) 5)", "1", ""}, {"((lambda (v1) 7) 5)", "1", ""}, {"((lambda (v1) v1) v2)", "1", ""}, {"((lambda (v1) v1) v2)", "2", ""}, {"((lambda (v1) 7) v2)", "2", ""}, {"((lambda (v1) v1) v2)", "2 1", ""}, {"((lambda (v1) v1) v2)", "3 4 5", "v2"}, {"((lambda (v1) v1) 5)", "5", "5"}, {"((lambda (v1) v1) v2)", "-1 100000", "v2"}, {"((lambda (v1) v1) v2)", "3 2 4", ""}, {"((lambda (v1) v1) v2)", "3 4 1", ""},
		{"((lambda (v1) (v1 v3)) 5)", "3", "(5 v3)"}, {"((lambda (v1) (v1 v3)) v2)", "3", "(v2 v3)"}, {"((lambda (v1) v1) *)", "2", "*"}, {"((lambda (v1) v1) 2)", "2", "2"}, {"((lambda (v0) v0) v1)", "", "v1"}, {"((lambda (v0) v0) 'a)", "0", ""}, {"((lambda (v0) v0) '())", "1", "'()"}, {"((lambda (v99999) v99999) v0)", "", "v0"}, {"((lambda (v1) v1) v0)", "0", ""},
		// Each of several parameters and arguments.
		{"((lambda (v1 v2 v3) (v3 v2 v1)) v4 5 car)", "", "(car 5 v4)"}, {"((lambda (v1 v2 v3) (v3 v2 v1)) v4 v5 v6)", "1", ""}, {"((lambda (v1 v2 v3) (v3 v2 v1)) v4 v5 v6)", "2", ""}, {"((lambda (v1 v2 v3) (v3 v2 v1)) v4 v5 v6)", "3", ""}, {"((lambda (v1 v2 v3) (v3 v2 v1)) v4 v5 v6)", "4", ""}, {"((lambda (v1 v2 v3) (v3 v2 v1)) v4 v5 v6)", "5", ""}, {"((lambda (v1 v2 v3) (v3 v2 v1)) v4 v5 v6)", "6", ""},
		{"((lambda (v1 v2 v3) (v3 v2 v1)) v4 v5 v6)", "7", "(v6 v5 v4)"}, {"((lambda (v1 v2 v3) 5) '(1) 2 3)", "", ""}, {"((lambda (v1 v2 v3) 5) 1 (v4) 3)", "", ""}, {"((lambda (v1 v2 v3) 5) 1 2 (lambda () 3))", "", ""}, {"((lambda (v1 v2) (v1 v2)) v3 v3)", "", "(v3 v3)"}, {"((lambda (v1 v2) (v2 v1)) v4 v3)", "", "(v3 v4)"}, {"((lambda (v2 v1) (v2 v1)) v4 v3)", "", "(v4 v3)"},
		{"((lambda (v1 v2 v3 v4 v5 v6 v7 v8) (v8 v7 v6 v5 v4 v3 v2 v1)) 1 2 3 4 5 6 7 v9)", "", "(v9 7 6 5 4 3 2 1)"}, {"((lambda (v1 v2 v3 v4 v5 v6 v7 v8) (v8 v7 v6 v5 v4 v3 v2 v1)) 1 2 3 4 5 6 7 v9)", "9", ""}, {"((lambda (v1 v2 v3 v4 v5 v6 v7 v8) (v8 v7 v6 v5 v4 v3 v2 v1)) 1 2 3 4 5 6 7 v9)", "8", ""},
		// Another number of arguments.
		{"((lambda (v1) v1))", "", ""}, {"((lambda (v1) v1) 5 6)", "", ""}, {"((lambda (v1 v2) v1) 5)", "", ""}, {"((lambda () 1) 5)", "", ""}, {"((lambda (v1 v2) 1))", "", ""}, {"((lambda (v1 v2) 1) 1 2 3)", "", ""},
		// No parameters.
		{"((lambda () 1))", "", "1"}, {"((lambda () v1))", "", "v1"}, {"((lambda () v1))", "1", "v1"}, {"((lambda () (+ 1 2)))", "1 2 3", "(+ 1 2)"}, {"((lambda () (lambda (v1) v1)))", "", "(lambda (v1) v1)"}, {"((lambda () (begin 1 2)))", "", "(begin 1 2)"}, {"((lambda () '(1)))", "", "'(1)"},
		// A parameter that is used twice, within other terms, and not at all.
		{"((lambda (v1) (v1 v1)) 5)", "", "(5 5)"}, {"((lambda (v1) (cons v1 (cons v1 v1))) v2)", "", "(cons v2 (cons v2 v2))"}, {"((lambda (v1) 7) 5)", "", "7"}, {"((lambda (v1) 7) v2)", "", "7"}, {"((lambda (v1) (lambda (v3) (v1 v3))) 5)", "", "(lambda (v3) (5 v3))"}, {"((lambda (v1) (lambda () (lambda (v3) v1))) v2)", "", "(lambda () (lambda (v3) v2))"},
		{"((lambda (v1) (local (v3) (set! v3 v1) v1)) 5)", "3", "(local (v3) (set! v3 5) 5)"}, {"((lambda (v1) (reset (shift v3 (v3 v1)))) 5)", "", "(reset (shift v3 (v3 5)))"}, {"((lambda (v1) (if v1 v1 v2)) v3)", "", "(if v3 v3 v2)"}, {"((lambda (v1) (begin v1 v1)) v3)", "", "(begin v3 v3)"}, {"((lambda (v1) (set! v2 v1)) v3)", "2", "(set! v2 v3)"},
		{"((lambda (v1) ((lambda (v2) (v1 v2)) v1)) 5)", "", "((lambda (v2) (5 v2)) 5)"}, {"((lambda (v1) (v1 v2)) v2)", "", "(v2 v2)"}, {"((lambda (v1) (lambda (v3) (v1 v2 v3))) v2)", "", "(lambda (v3) (v2 v2 v3))"}, {"((lambda (v1) '(v1 v1)) 5)", "", "'(v1 v1)"},
		// One that is assigned, but no element of boxed.
		{"((lambda (v1) (set! v1 2)) 4)", "", "(set! v1 2)"}, {"((lambda (v1) (begin (set! v1 v1) v1)) 4)", "", "(begin (set! v1 4) 4)"}, {"((lambda (v1) (begin (set! v1 v1) v1)) 4)", "1", ""}, {"((lambda (v1) (v1 (set! v1 v2))) v2)", "", "(v2 (set! v1 v2))"},
		// The body stays as it is otherwise.
		{"((lambda (v1) (+ v1 1)) 2)", "", "(+ 2 1)"}, {"((lambda () (if #t 1 2)))", "", "(if #t 1 2)"}, {"((lambda (v1) (if v1 (+ 1 2) (begin 3 4))) #f)", "", "(if #f (+ 1 2) (begin 3 4))"}, {"((lambda (v1) ((lambda () v1))) 2)", "", "((lambda () 2))"},
		// Something else that is applied.
		{"((if #t (lambda (v1) v1) 2) 5)", "", ""}, {"((begin 1 (lambda (v1) v1)) 5)", "", ""}, {"((reset (lambda (v1) v1)) 5)", "", ""}, {"((local (v1) 5) 5)", "", ""}, {"((shift v1 5) 5)", "", ""}, {"(((lambda (v1) v1) car) 5)", "", ""}, {"(v1 5)", "", ""}, {"(5 5)", "", ""}, {"('(lambda (v1) v1) 5)", "", ""}, {"((set! v1 1) 5)", "", ""}, {"(5)", "", ""},
		// Within another term.
		{"(lambda () ((lambda (v1) v1) 5))", "", ""}, {"(reset ((lambda (v1) v1) 5))", "", ""}, {"(v2 ((lambda (v1) v1) 5))", "", ""}, {"(local (v1) 1 2)", "", ""}, {"(lambda (v1) 1)", "", ""}, {"(if (lambda (v1) 5) 6 7)", "", ""},
	})
}

func TestSimplifyBranches(t *testing.T) {
	for _, boxed := range someBoxed {
		checkNodes(t, []ruleCase{
			{"(if #t 1 2)", boxed, "1"}, {"(if #f 1 2)", boxed, "2"}, {"(if 0 1 2)", boxed, "1"}, {"(if 5 1 2)", boxed, "1"}, {"(if '() 1 2)", boxed, "1"}, {"(if 'a 1 2)", boxed, "1"}, {"(if \"\" 1 2)", boxed, "1"}, {"(if \"a\" 1 2)", boxed, "1"}, {"(if -1 1 2)", boxed, "1"},
			// Branches of any kind, which stay as they are.
			{"(if #t v1 v2)", boxed, "v1"}, {"(if #f v1 v2)", boxed, "v2"}, {"(if #t (if #t 1 2) 3)", boxed, "(if #t 1 2)"}, {"(if #f 1 (if #f 1 2))", boxed, "(if #f 1 2)"}, {"(if 'f (begin 1 2) 3)", boxed, "(begin 1 2)"}, {"(if #f 3 (begin 1 2))", boxed, "(begin 1 2)"}, {"(if 1 (lambda (v5) v5) (lambda (v6) v6))", boxed, "(lambda (v5) v5)"},
			{"(if #t + -)", boxed, "+"}, {"(if #f + -)", boxed, "-"}, {"(if #f 1 (+ 1 2))", boxed, "(+ 1 2)"}, {"(if #t '(1 2) 3)", boxed, "'(1 2)"}, {"(if #t (set! v1 2) (set! v3 4))", boxed, "(set! v1 2)"}, {"(if #f 1 (local (v5) 2))", boxed, "(local (v5) 2)"}, {"(if #t (shift v5 2) 1)", boxed, "(shift v5 2)"}, {"(if #t (reset 1) 1)", boxed, "(reset 1)"},
			// A test that is no atom.
			{"(if '(1) 1 2)", boxed, ""}, {"(if '(#f) 1 2)", boxed, ""}, {"(if '(()) 1 2)", boxed, ""}, {"(if v1 1 2)", boxed, ""}, {"(if + 1 2)", boxed, ""}, {"(if (lambda () 1) 1 2)", boxed, ""}, {"(if (not #f) 1 2)", boxed, ""}, {"(if (+ 1 2) 1 2)", boxed, ""}, {"(if (if #t 1 2) 1 2)", boxed, ""}, {"(if (begin 1 #f) 1 2)", boxed, ""}, {"(if (reset #f) 1 2)", boxed, ""},
			{"(if (set! v1 #f) 1 2)", boxed, ""}, {"(if (local (v5) #f) 1 2)", boxed, ""}, {"(if (shift v5 #f) 1 2)", boxed, ""}, {"(if v1 #f #f)", boxed, ""}, {"(if v1 (if #t 1 2) 3)", boxed, ""}, {"(reset (if #t 1 2))", boxed, ""}, {"(lambda () (if #t 1 2))", boxed, ""},
		})
	}
}

func TestSimplifySequences(t *testing.T) {
	for _, boxed := range someBoxed {
		checkNodes(t, []ruleCase{
			// All but the last are left out.
			{"(begin 1 2)", boxed, "2"}, {"(begin 1 2 3)", boxed, "3"}, {"(begin '() 'a \"b\" #f v1)", boxed, "v1"}, {"(begin '(1 2) 3)", boxed, "3"}, {"(begin + 3)", boxed, "3"}, {"(begin display cons v1)", boxed, "v1"}, {"(begin (lambda () 1) 3)", boxed, "3"}, {"(begin (lambda (v5) (v5 v1)) (v1 2))", boxed, "(v1 2)"}, {"(begin '(1) * (lambda () 2) (lambda () 3))", boxed, "(lambda () 3)"}, {"(begin 1 '(2))", boxed, "'(2)"}, {"(begin 1 -)", boxed, "-"}, {"(begin 1 (local (v5) 6))", boxed, "(local (v5) 6)"},
			// Some of them.
			{"(begin 1 v1 2)", boxed, "(begin v1 2)"}, {"(begin v1 1 2)", boxed, "(begin v1 2)"}, {"(begin v1 1 v2 2 v3 3)", boxed, "(begin v1 v2 v3 3)"}, {"(begin (display 1) + (display 2))", boxed, "(begin (display 1) (display 2))"}, {"(begin '(1) (display 1) (lambda () 1) (display 2) 7)", boxed, "(begin (display 1) (display 2) 7)"}, {"(begin (set! v1 2) v1 'a v1)", boxed, "(begin (set! v1 2) v1 v1)"},
			{"(begin 1 (v1) (v2) (v3))", boxed, "(begin (v1) (v2) (v3))"}, {"(begin (v1) (v2) 1 (v3))", boxed, "(begin (v1) (v2) (v3))"}, {"(begin v1 2 +)", boxed, "(begin v1 +)"}, {"(begin v1 2 (lambda () 1))", boxed, "(begin v1 (lambda () 1))"},
			// None: kids of each other kind, and the last one.
			{"(begin v1 1)", boxed, ""}, {"(begin v1 v1)", boxed, ""}, {"(begin (set! v1 1) 2)", boxed, ""}, {"(begin (+ 1 2) 3)", boxed, ""}, {"(begin (v1) 3)", boxed, ""}, {"(begin (if 1 2 3) 4)", boxed, ""}, {"(begin (local (v5) 1) 2)", boxed, ""}, {"(begin (reset 1) 2)", boxed, ""}, {"(begin (shift v5 1) 2)", boxed, ""}, {"(begin (display 1) '(1))", boxed, ""}, {"(begin v1 v2 (v1) (lambda () 1))", boxed, ""},
			{"(begin ((lambda () 1)) 2)", boxed, ""}, {"(begin (if #t 1 2) +)", boxed, ""}, {"(local (v5) 1 2)", boxed, ""}, {"(local (v5) (begin 1 2))", boxed, ""}, {"(lambda () (begin 1 2))", boxed, ""}, {"(reset (begin 1 2))", boxed, ""}, {"(if v1 (begin 1 2) 3)", boxed, ""},
		})
	}
	// The longest ones.
	checkNode(t, node(impl.CoreSequence, constants(60)...), nil, constant(number(59)))
	kids := slices.Repeat([]impl.Core{called(useOf(1))}, 60)
	checkNode(t, node(impl.CoreSequence, kids...), nil, impl.Core{})
	kids = slices.Clone(kids)
	kids[30] = constant(list(atoms(500)...))
	checkNode(t, node(impl.CoreSequence, kids...), nil, node(impl.CoreSequence, slices.Repeat([]impl.Core{called(useOf(1))}, 59)...))
}

func TestSimplifyOtherKinds(t *testing.T) {
	for _, boxed := range someBoxed {
		checkNodes(t, []ruleCase{
			{"5", boxed, ""}, {"'()", boxed, ""}, {"'(1)", boxed, ""}, {"v1", boxed, ""}, {"+", boxed, ""}, {"(set! v1 2)", boxed, ""}, {"(lambda () 1)", boxed, ""}, {"(lambda (v5) v5)", boxed, ""}, {"(local (v5) 1)", boxed, ""}, {"(local (v5) 1 2)", boxed, ""}, {"(reset 1)", boxed, ""}, {"(shift v5 1)", boxed, ""}, {"(1 2)", boxed, ""}, {"(v1 v2)", boxed, ""},
			// Terms that are not valid, to which a rule would apply.
			{"(begin 1)", boxed, ""}, {"(begin)", boxed, ""}, {"(begin 1 (begin 2 3))", boxed, ""}, {"(begin (lambda (v5) 1) (lambda (v5) 1))", boxed, ""}, {"(if #t 1)", boxed, ""}, {"(if #t 1 2 3)", boxed, ""}, {"(if #t v-1 1)", boxed, ""}, {"(if #t 1 v-1)", boxed, ""}, {"(if #f 1 v100000)", boxed, ""}, {"(+ 1 2 v-1)", boxed, ""}, {"()", boxed, ""},
			{"((lambda () v-1))", boxed, ""}, {"((lambda (v5 v5) 1) 2 3)", boxed, ""}, {"((lambda (v5) 1) v5)", boxed, ""}, {"((lambda (v5) (lambda (v5) 1)) 2)", boxed, ""}, {"((lambda (v5) (lambda (v6) 1)) v6)", boxed, ""}, {"((lambda () 1 2))", boxed, ""}, {"((lambda (v100000) 1) 2)", boxed, ""}, {"((lambda (v5) 1) v-1)", boxed, ""}, {"(reset 1 2)", boxed, ""},
		})
	}
	for _, c := range []impl.Core{{}, node(impl.CoreSequence, constants(61)...), node(impl.CoreIf, constant(boolean(2)), useOf(1), useOf(2)), node(impl.CoreSequence, primitive(14), useOf(1)), node(impl.CoreSequence, constant(symbol("A")), useOf(1)), {Kind: impl.CoreIf, Number: 1, Kids: constants(3)}, {Kind: impl.CoreSequence, Params: []int{1}, Kids: constants(3)}} {
		checkNode(t, c, nil, impl.Core{})
	}
	for _, c := range badCores(t) {
		checkNode(t, c, []int{1}, impl.Core{})
		checkNode(t, node(impl.CoreIf, constant(boolean(1)), constant(number(1)), c), nil, impl.Core{})
	}
	deep := within(147, called(useOf(1)))
	checkNode(t, node(impl.CoreIf, constant(boolean(1)), deep, useOf(1)), nil, deep)
	checkNode(t, node(impl.CoreIf, constant(boolean(1)), within(1, deep), useOf(1)), nil, impl.Core{})
	large := sized(2997)
	checkNode(t, node(impl.CoreIf, constant(boolean(0)), useOf(1), large), nil, large)
	checkNode(t, node(impl.CoreIf, constant(boolean(0)), called(useOf(1)), large), nil, impl.Core{})
	for _, c := range []impl.Core{branching(100), node(impl.CoreIf, constant(boolean(1)), useOf(1), branching(100)), node(impl.CoreSequence, branching(100), useOf(1))} {
		if got, ok := impl.SimplifyNode(c, nil); ok || !isZeroCore(got) {
			t.Errorf("a term of more than 2^100 nodes is simplified to %s", showCore(got))
		}
	}
}

func TestSimplifyAnyNodes(t *testing.T) {
	g := generator(229)
	applied := map[int]int{}
	for i := range 12000 {
		c := g.core(1 + i%3)
		if i%2 == 0 {
			c = g.obscured(c, 3)
		}
		if i%5 == 0 {
			c = g.change(c)
		}
		if i%50 == 0 {
			c = g.anyCore(2)
		}
		boxed := g.someVariables(c)
		for _, at := range nodesOf(&c) {
			wanted, ok := describedRule(*at, boxed)
			checkNode(t, *at, boxed, wanted)
			if ok {
				applied[at.Kind]++
				checkNodeKeeps(t, *at, wanted)
			}
		}
	}
	if applied[impl.CoreApply] < 2000 || applied[impl.CoreIf] < 1000 || applied[impl.CoreSequence] < 1000 {
		t.Errorf("rules applied to nodes of each kind: %v", applied)
	}
}

// checkNodeKeeps checks that the term is valid and smaller. An assigned
// parameter that is no element of boxed is free in it.
func checkNodeKeeps(t *testing.T, before, after impl.Core) {
	t.Helper()
	if !isGoodAlone(after) || impl.SizeOfCore(after) >= impl.SizeOfCore(before) || impl.DepthOfCore(after) > impl.DepthOfCore(before) {
		t.Errorf("%s, which was %s, is not valid or no smaller", showTerm(after), showTerm(before))
	}
}
