package tests

import (
	"fmt"
	"slices"
	"testing"

	"loop.example/g03220/impl"
)

func TestIsSimple(t *testing.T) {
	for _, s := range []struct {
		source, boxed string
		wanted        bool
	}{
		// Constants, also where numbers of boxed are those of other fields.
		{"'()", "", true}, {"5", "5 0 1 2", true}, {"0", "0", true}, {"-999999999", "", true}, {"'a", "", true}, {"'v1", "1", true}, {"#t", "1 0", true}, {"#f", "0 1", true}, {"\"\"", "", true}, {"\"a b\"", "", true},
		{"'(a)", "", false}, {"'(())", "", false}, {"'(1 2)", "", false}, {"'(quote a)", "", false},
		{"+", "", true}, {"+", "0", true}, {"cons", "", true}, {"cons", "5", true}, {"display", "13", true}, {"car", "0 1 2 3 4 5 6 7", true},
		// Variables.
		{"v1", "", true}, {"v0", "", true}, {"v99999", "", true}, {"v0", "1 2", true}, {"v1", "0 2 10 -1", true}, {"v1", "1", false}, {"v0", "0", false}, {"v99999", "99999", false}, {"v1", "2 1", false}, {"v1", "1 2 1", false}, {"v3", "1 2 3 4", false}, {"v3", "3 3", false}, {"v3", "2 2 4", true},
		// The other kinds.
		{"(set! v1 2)", "", false}, {"(set! v1 v2)", "1", false}, {"(lambda () 1)", "", false}, {"(lambda (v1) v1)", "", false}, {"(+ 1 2)", "", false}, {"(v1)", "", false}, {"(+)", "", false}, {"(if 1 2 3)", "", false}, {"(if v1 v1 v1)", "", false},
		{"(begin 1 2)", "", false}, {"(begin v1 v1)", "", false}, {"(local (v1) 1)", "", false}, {"(local (v1) v1)", "", false}, {"(reset 1)", "", false}, {"(reset v1)", "", false}, {"(shift v1 1)", "", false}, {"(shift v1 v1)", "", false},
		// Terms that are not valid.
		{"v-1", "", false}, {"v100000", "", false}, {"v-1", "-1", false}, {"()", "", false}, {"(begin 1)", "", false}, {"'A", "", false},
	} {
		c := impl.Core{}
		if s.source == "'A" {
			c = constant(symbol("A"))
		} else {
			c = term(t, s.source)
		}
		checkSimple(t, c, numbersIn(t, s.boxed), s.wanted)
	}
	for _, boxed := range [][]int{nil, {}, {leastInt, greatestInt}, from(-5, 20), from(0, 100000)} {
		checkSimple(t, useOf(7), boxed, !slices.Contains(boxed, 7))
		checkSimple(t, constant(number(7)), boxed, true)
		checkSimple(t, primitive(7), boxed, true)
	}
}

func TestIsSimpleOfAnyTerms(t *testing.T) {
	g := generator(211)
	for _, boxed := range [][]int{nil, {}, {1, 2, 5}, {0, -1, 1, 99999, leastInt}} {
		for _, c := range badCores(t) {
			checkSimple(t, c, boxed, false)
		}
		for _, good := range goodCores(t) {
			checkSimple(t, good.c, boxed, describedSimple(good.c, boxed))
		}
		for range 500 {
			c := g.anyCore(1)
			checkSimple(t, c, boxed, describedSimple(c, boxed))
			c = g.core(g.below(2))
			checkSimple(t, c, boxed, describedSimple(c, boxed))
			c = g.change(c)
			checkSimple(t, c, boxed, describedSimple(c, boxed))
		}
	}
	for _, depth := range []int{40, 100, 151} {
		if impl.IsSimple(branching(depth), nil) {
			t.Errorf("a term of 2^%d nodes is simple", depth)
		}
	}
}

func TestSubstituteCore(t *testing.T) {
	for _, s := range []struct {
		source   string
		variable int
		simple   string
		wanted   string
	}{
		// A variable that is free, in each place.
		{"v1", 1, "5", "5"}, {"v1", 1, "v2", "v2"}, {"v1", 1, "car", "car"}, {"v1", 1, "'()", "'()"}, {"v1", 1, "\"a\"", "\"a\""}, {"v1", 1, "#f", "#f"}, {"v0", 0, "v99999", "v99999"}, {"v99999", 99999, "v0", "v0"},
		{"(v1 v1 v2 v1)", 1, "7", "(7 7 v2 7)"}, {"(if v1 v2 v3)", 1, "7", "(if 7 v2 v3)"}, {"(if v1 v2 v3)", 2, "7", "(if v1 7 v3)"}, {"(if v1 v2 v3)", 3, "7", "(if v1 v2 7)"}, {"(begin v1 v1 v2)", 1, "v2", "(begin v2 v2 v2)"}, {"(set! v2 v1)", 1, "7", "(set! v2 7)"},
		{"(lambda () v1)", 1, "7", "(lambda () 7)"}, {"(lambda (v2) (v1 v2))", 1, "7", "(lambda (v2) (7 v2))"}, {"(local (v2 v3) v1 (v2 v1))", 1, "+", "(local (v2 v3) + (v2 +))"}, {"(reset v1)", 1, "7", "(reset 7)"}, {"(shift v2 (v2 v1))", 1, "7", "(shift v2 (v2 7))"},
		{"(lambda (v2) (lambda (v3) (shift v4 (reset (if v2 (v1 v3) (begin v4 v1))))))", 1, "v5", "(lambda (v2) (lambda (v3) (shift v4 (reset (if v2 (v5 v3) (begin v4 v5))))))"},
		// One that is bound is replaced in the same way; what binds it stays.
		{"(lambda (v1) v1)", 1, "7", "(lambda (v1) 7)"}, {"(lambda (v1 v2) (v1 v2))", 2, "v3", "(lambda (v1 v2) (v1 v3))"}, {"(local (v1) (set! v1 v1) v1)", 1, "'a", "(local (v1) (set! v1 'a) 'a)"}, {"(shift v1 (v1 v1))", 1, "car", "(shift v1 (car car))"},
		// One that is assigned.
		{"(set! v1 2)", 1, "7", "(set! v1 2)"}, {"(set! v1 v1)", 1, "7", "(set! v1 7)"}, {"(begin (set! v1 (+ v1 1)) v1)", 1, "v2", "(begin (set! v1 (+ v2 1)) v2)"}, {"(set! v1 (set! v2 (set! v1 v1)))", 1, "7", "(set! v1 (set! v2 (set! v1 7)))"},
		// One that is absent, also where it is the number of something else.
		{"v1", 2, "7", "v1"}, {"+", 0, "7", "+"}, {"car", 6, "7", "car"}, {"5", 5, "7", "5"}, {"'v1", 1, "7", "'v1"}, {"'(v1 v1)", 1, "7", "'(v1 v1)"}, {"(lambda (v1) 5)", 1, "7", "(lambda (v1) 5)"}, {"(if 1 2 3)", 0, "7", "(if 1 2 3)"}, {"(v10 v11)", 1, "7", "(v10 v11)"},
		{"v1", -1, "7", "v1"}, {"v0", 100000, "7", "v0"}, {"(v1 v0)", leastInt, "7", "(v1 v0)"}, {"(v1 v0)", greatestInt, "7", "(v1 v0)"},
		// A simple term that is the same variable, or one that is free in the term.
		{"v1", 1, "v1", "v1"}, {"(v1 v2)", 1, "v1", "(v1 v2)"}, {"(lambda (v1) v1)", 1, "v1", "(lambda (v1) v1)"}, {"(lambda (v3) (v1 v2 v3))", 1, "v2", "(lambda (v3) (v2 v2 v3))"}, {"(begin (set! v2 1) v1)", 1, "v2", "(begin (set! v2 1) v2)"},
		// One that is bound in the term, in each way, also where this is elsewhere.
		{"(lambda (v2) v1)", 1, "v2", "(lambda (v2) v1)"}, {"(local (v2) v1)", 1, "v2", "(local (v2) v1)"}, {"(shift v2 v1)", 1, "v2", "(shift v2 v1)"}, {"(v1 (lambda (v2) 5))", 1, "v2", "(v1 (lambda (v2) 5))"}, {"(lambda (v3 v4 v2) v1)", 1, "v2", "(lambda (v3 v4 v2) v1)"},
		{"(begin (local (v3 v2) 1) v1)", 1, "v2", "(begin (local (v3 v2) 1) v1)"}, {"(lambda (v1) (lambda (v2) v1))", 1, "v2", "(lambda (v1) (lambda (v2) v1))"},
		// A primitive or constant with the number of a variable that is bound.
		{"(lambda (v2) v1)", 1, "*", "(lambda (v2) *)"}, {"(lambda (v2) v1)", 1, "2", "(lambda (v2) 2)"}, {"(lambda (v0) v1)", 1, "'()", "(lambda (v0) '())"}, {"(lambda (v0) (v1 v0))", 1, "+", "(lambda (v0) (+ v0))"},
		// One that is not simple, or not valid.
		{"v1", 1, "'(1)", "v1"}, {"v1", 1, "(lambda () 1)", "v1"}, {"v1", 1, "(+ 1 2)", "v1"}, {"v1", 1, "(set! v2 3)", "v1"}, {"v1", 1, "(begin 1 2)", "v1"}, {"v1", 1, "(if 1 2 3)", "v1"}, {"v1", 1, "(local (v2) 1)", "v1"}, {"v1", 1, "(reset 1)", "v1"}, {"v1", 1, "(shift v2 1)", "v1"},
		{"v1", 1, "v-1", "v1"}, {"v1", 1, "v100000", "v1"}, {"v1", 1, "()", "v1"},
		// A term that is not valid.
		{"(begin v1)", 1, "7", "(begin v1)"}, {"(v1 v-1)", 1, "7", "(v1 v-1)"}, {"(v1 (lambda (v1) v1))", 1, "7", "(v1 (lambda (v1) v1))"}, {"v-1", -1, "7", "v-1"}, {"v100000", 100000, "7", "v100000"}, {"(lambda (v2 v2) v1)", 1, "7", "(lambda (v2 v2) v1)"}, {"(if v1 v1)", 1, "7", "(if v1 v1)"}, {"()", 0, "7", "()"},
	} {
		checkSubstitute(t, term(t, s.source), s.variable, term(t, s.simple), term(t, s.wanted))
	}
	checkSubstitute(t, useOf(1), 1, impl.Core{}, useOf(1))
	checkSubstitute(t, useOf(1), 1, primitive(14), useOf(1))
	checkSubstitute(t, useOf(1), 1, constant(symbol("A")), useOf(1))
	checkSubstitute(t, impl.Core{}, 0, constant(number(7)), impl.Core{})
}

func TestSubstituteInAnyTerms(t *testing.T) {
	g := generator(223)
	changed, kept := 0, 0
	for i := range 4000 {
		c := g.core(1 + i%4)
		if i%3 == 0 {
			c = g.change(c)
		}
		if i%20 == 0 {
			c = g.anyCore(2)
		}
		some := append([]int{1, 2, 3, 4, -1, 0, 99999}, describedBound(c)...)
		variable := some[g.below(len(some))]
		eachTerm(c, func(_ []impl.Core, c impl.Core) {
			if c.Kind == impl.CoreVariable && g.below(2) == 0 {
				variable = c.Number
			}
		})
		other := useOf(some[g.below(len(some))])
		simple := []impl.Core{other, other, primitive(g.below(15)), constant(g.strange(0)), constant(g.datum(g.below(2))), g.core(1), g.anyCore(0)}[g.below(7)]
		wanted := describedSubstitute(c, variable, simple)
		checkSubstitute(t, c, variable, simple, wanted)
		if sameCore(wanted, c) {
			kept++
			continue
		}
		changed++
		if !isGoodAlone(wanted) || impl.SizeOfCore(wanted) != impl.SizeOfCore(c) || impl.DepthOfCore(wanted) != impl.DepthOfCore(c) {
			t.Errorf("SubstituteCore(%s, %d, %s) = %s, which is not valid or of another size", showTerm(c), variable, showTerm(simple), showTerm(wanted))
		}
	}
	for _, c := range badCores(t) {
		if got := impl.SubstituteCore(c, 1, constant(number(7))); !sameCore(got, c) {
			t.Errorf("SubstituteCore(%s, 1, 7) = %s", showCore(c), showCore(got))
		}
		if got := impl.SubstituteCore(useOf(1), 1, c); !sameCore(got, useOf(1)) {
			t.Errorf("SubstituteCore(v1, 1, %s) = %s", showCore(c), showCore(got))
		}
	}
	if got := impl.SubstituteCore(useOf(1), 1, branching(100)); !sameCore(got, useOf(1)) {
		t.Errorf("a term of 2^100 nodes was taken for a simple one: %s", showCore(got))
	}
	if changed < 500 || kept < 500 {
		t.Errorf("%d terms are changed, and %d are not", changed, kept)
	}
}

// foldCases has applications of primitives to atoms, with the constants that
// they become; none if this is empty.
var foldCases = []struct{ source, wanted string }{
	{"(+ 1 2)", "3"}, {"(+ -5 5)", "0"}, {"(+ 0 0)", "0"}, {"(- 1 2)", "-1"}, {"(- 2 1)", "1"}, {"(* 3 4)", "12"}, {"(* -3 4)", "-12"}, {"(* 0 -7)", "0"}, {"(= 1 1)", "#t"}, {"(= 1 2)", "#f"}, {"(< 1 2)", "#t"}, {"(< 2 1)", "#f"}, {"(< 2 2)", "#f"}, {"(< -2 -1)", "#t"},
	{"(null? '())", "#t"}, {"(null? 0)", "#f"}, {"(null? #f)", "#f"}, {"(null? 'a)", "#f"}, {"(null? \"\")", "#f"}, {"(pair? '())", "#f"}, {"(pair? 1)", "#f"}, {"(pair? 'a)", "#f"}, {"(number? 0)", "#t"}, {"(number? '())", "#f"}, {"(number? #t)", "#f"}, {"(number? \"1\")", "#f"}, {"(number? 'a)", "#f"},
	{"(eq? 1 1)", "#t"}, {"(eq? 1 2)", "#f"}, {"(eq? 'a 'a)", "#t"}, {"(eq? 'a 'b)", "#f"}, {"(eq? 'a \"a\")", "#f"}, {"(eq? \"a\" \"a\")", "#t"}, {"(eq? \"a\" \"b\")", "#f"}, {"(eq? '() '())", "#t"}, {"(eq? '() #f)", "#f"}, {"(eq? #t #t)", "#t"}, {"(eq? #t 1)", "#f"}, {"(eq? #f 0)", "#f"}, {"(eq? #f #f)", "#t"}, {"(eq? \"\" '())", "#f"},
	{"(not #f)", "#t"}, {"(not #t)", "#f"}, {"(not 0)", "#f"}, {"(not '())", "#f"}, {"(not 'a)", "#f"}, {"(not \"\")", "#f"},
	// At the limits of numbers.
	{"(+ 999999999 0)", "999999999"}, {"(+ 999999998 1)", "999999999"}, {"(+ 999999999 1)", ""}, {"(+ 999999999 999999999)", ""}, {"(+ -999999999 -1)", ""}, {"(- -999999999 0)", "-999999999"}, {"(- -999999999 1)", ""}, {"(- -999999998 1)", "-999999999"}, {"(- 0 -999999999)", "999999999"}, {"(- 1 -999999999)", ""},
	{"(* 333333333 3)", "999999999"}, {"(* 500000000 2)", ""}, {"(* -1 999999999)", "-999999999"}, {"(* -500000000 2)", ""}, {"(* 999999999 999999999)", ""}, {"(* 31622 31622)", "999950884"}, {"(* 31623 31623)", ""},
	// Arguments that are no numbers, first or last, and no pairs.
	{"(+ 'a 1)", ""}, {"(+ 1 'a)", ""}, {"(+ #t 1)", ""}, {"(+ 1 \"1\")", ""}, {"(+ '() 1)", ""}, {"(- #f 1)", ""}, {"(- 1 '())", ""}, {"(* 'a 0)", ""}, {"(* 0 'a)", ""}, {"(= 'a 'a)", ""}, {"(= 1 #t)", ""}, {"(= '() '())", ""}, {"(< 'a 1)", ""}, {"(< 1 \"a\")", ""},
	{"(car '())", ""}, {"(car 1)", ""}, {"(car 'a)", ""}, {"(car #f)", ""}, {"(car \"a\")", ""}, {"(cdr '())", ""}, {"(cdr 1)", ""}, {"(cdr 'a)", ""}, {"(cdr #t)", ""}, {"(cdr \"\")", ""},
	// Another number of arguments.
	{"(+)", ""}, {"(+ 1)", ""}, {"(+ 1 2 3)", ""}, {"(- 1)", ""}, {"(* 1 2 3)", ""}, {"(= 1)", ""}, {"(< 1 2 3)", ""}, {"(eq? 1)", ""}, {"(eq? 1 1 1)", ""}, {"(null?)", ""}, {"(null? 1 2)", ""}, {"(pair?)", ""}, {"(pair? 1 1)", ""}, {"(number?)", ""}, {"(number? 1 2)", ""}, {"(not)", ""}, {"(not #f #f)", ""}, {"(car)", ""}, {"(car 1 2)", ""},
	{"(cdr)", ""}, {"(cdr 1 2)", ""}, {"(cons)", ""}, {"(display)", ""}, {"(+ 1 2 3 4 5 6 7 8)", ""},
	// The primitives that are not pure.
	{"(cons 1 2)", ""}, {"(cons 1 '())", ""}, {"(cons '() '())", ""}, {"(cons 1)", ""}, {"(display 1)", ""}, {"(display '())", ""}, {"(display 1 2)", ""},
	// Arguments that are no atoms, first or last.
	{"(null? '(1))", ""}, {"(pair? '(1))", ""}, {"(car '(1))", ""}, {"(car '(a))", ""}, {"(car '(\"a\"))", ""}, {"(car '(()))", ""}, {"(cdr '(1))", ""}, {"(cdr '(1 2))", ""}, {"(not '(1))", ""}, {"(number? '(1))", ""}, {"(eq? '(1) 1)", ""}, {"(eq? 1 '(1))", ""}, {"(eq? '(1) '(1))", ""}, {"(+ v1 2)", ""}, {"(+ 1 v1)", ""}, {"(eq? v1 v1)", ""}, {"(eq? + +)", ""}, {"(eq? 1 +)", ""}, {"(not +)", ""}, {"(null? car)", ""},
	{"(+ (+ 1 2) 3)", ""}, {"(+ 1 (+ 2 3))", ""}, {"(not (lambda () 1))", ""}, {"(null? (begin 1 '()))", ""}, {"(not (if 1 2 3))", ""}, {"(not (reset #f))", ""}, {"(not (shift v1 #f))", ""}, {"(not (set! v1 #f))", ""}, {"(not (local (v1) #f))", ""},
	// Applications of something else, and terms of other kinds.
	{"(1 2 3)", ""}, {"('+ 1 2)", ""}, {"(v0 1 2)", ""}, {"(v1)", ""}, {"((lambda (v1 v2) 5) 1 2)", ""}, {"((lambda () 1))", ""}, {"((+ 1 2) 3)", ""}, {"((begin 1 +) 1 2)", ""}, {"5", ""}, {"+", ""}, {"v1", ""}, {"(if #t 1 2)", ""}, {"(begin 1 2)", ""}, {"(lambda () (+ 1 2))", ""}, {"(reset (+ 1 2))", ""}, {"(set! v1 (+ 1 2))", ""},
	{"(local (v1) (+ 1 2))", ""}, {"(shift v1 (+ 1 2))", ""}, {"(begin + 1 2)", ""}, {"(if + 1 2)", ""}, {"(begin not #f)", ""},
	// Terms that are not valid.
	{"()", ""}, {"(+ 1 v-1)", ""}, {"(+ 1 (begin 2))", ""}, {"(reset not #f)", ""},
}

func TestFoldApplication(t *testing.T) {
	for _, s := range foldCases {
		wanted := impl.Core{}
		if s.wanted != "" {
			wanted = term(t, s.wanted)
		}
		checkFold(t, term(t, s.source), wanted)
	}
	for _, c := range []impl.Core{
		{}, called(primitive(-1), constant(number(1))), called(primitive(14), constant(number(1))), applied("+", constant(number(1)), constant(number(1000000000))), applied("not", constant(boolean(2))), applied("not", constant(symbol("A"))),
		{Kind: impl.CoreApply, Number: 1, Kids: applied("+", constants(2)...).Kids}, {Kind: impl.CoreApply, Params: []int{1}, Kids: applied("+", constants(2)...).Kids}, withDatum(applied("+", constants(2)...), symbol("a")), called(append([]impl.Core{primitive(0)}, constants(9)...)...), called(append([]impl.Core{primitive(0)}, constants(100000)...)...),
	} {
		checkFold(t, c, impl.Core{})
	}
	if got, ok := impl.FoldApplication(branching(100)); ok || !isZeroCore(got) {
		t.Errorf("an application of 2^100 nodes is folded to %s", showCore(got))
	}
}

// Each primitive with each number of atoms of each kind.
func TestFoldEachPrimitive(t *testing.T) {
	some := []impl.Core{constant(list()), constant(number(0)), constant(number(3)), constant(number(-999999999)), constant(boolean(0)), constant(boolean(1)), constant(symbol("a")), constant(text("a"))}
	folded := map[string]int{}
	var tuples func(args []impl.Core)
	tuples = func(args []impl.Core) {
		for n, s := range primitiveWords {
			c := called(append([]impl.Core{primitive(n)}, args...)...)
			wanted, ok := describedFold(c)
			checkFold(t, c, wanted)
			if ok {
				folded[s]++
				// The value is that of the term.
				got, same := impl.EvaluateCore(c, 1), impl.EvaluateCore(wanted, 0)
				if got.Status != impl.StatusDone || same.Status != impl.StatusDone || got.Text != same.Text || got.Made != 0 {
					t.Errorf("%s has the outcome %s, and %s %s", showTerm(c), showOutcome(got), showTerm(wanted), showOutcome(same))
				}
			}
			if got := impl.EvaluateCore(c, 1); ok != (got.Status == impl.StatusDone) && s != "cons" && s != "display" {
				t.Errorf("%s, which has the outcome %s, is folded: %v", showTerm(c), showOutcome(got), ok)
			}
		}
		if len(args) < 3 {
			for _, arg := range some {
				tuples(append(slices.Clone(args), arg))
			}
		}
	}
	tuples(nil)
	if got := fmt.Sprint(folded); got != "map[*:6 +:8 -:7 <:9 =:9 eq?:64 not:8 null?:8 number?:8 pair?:8]" {
		t.Errorf("so many applications are folded: %s", got)
	}
}

func TestFoldAnyTerms(t *testing.T) {
	g := generator(227)
	folded := 0
	for i := range 6000 {
		c := g.anyCore(1)
		switch i % 3 {
		case 0:
			args := []impl.Core{}
			for range 1 + g.below(2) {
				args = append(args, constant(g.datum(g.below(2))))
			}
			c = called(append([]impl.Core{primitive(g.below(14))}, args...)...)
		case 1:
			c = g.change(applied(primitiveWords[g.below(5)], constant(number(g.below(3))), constant(number(g.below(3)))))
		}
		wanted, ok := describedFold(c)
		folded += count(ok)
		checkFold(t, c, wanted)
	}
	for _, c := range badCores(t) {
		checkFold(t, c, impl.Core{})
	}
	if folded < 800 {
		t.Errorf("only %d terms are folded", folded)
	}
}
