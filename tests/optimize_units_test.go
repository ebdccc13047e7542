package tests

import (
	"strings"
	"testing"

	"loop.example/g03220/impl"
)

// checkUnitsOptimized checks OptimizeUnits.
func checkUnitsOptimized(t *testing.T, list, wanted []impl.Unit, rules int) {
	t.Helper()
	if got, n := impl.OptimizeUnits(list); !sameUnits(got, wanted) || n != rules {
		t.Errorf("OptimizeUnits(%s) = %s, %d, not %s, %d", showUnits(list), showUnits(got), n, showUnits(wanted), rules)
	}
	if second, n := describedUnits(list); !sameUnits(second, wanted) || n != rules {
		t.Errorf("the description of OptimizeUnits has for %s %s, %d, not %s, %d", showUnits(list), showUnits(second), n, showUnits(wanted), rules)
	}
}

func TestOptimizeUnits(t *testing.T) {
	for _, s := range []struct {
		units, wanted []string
		rules         int
	}{
		{nil, nil, 0}, {[]string{"a;;7"}, []string{"a;;7"}, 0}, {[]string{"a;;(+ 1 2)"}, []string{"a;;3"}, 1}, {[]string{"a;1 2;(begin (set! v2 (+ 1 2)) (set! v1 (if #t v2 0)))"}, []string{"a;1 2;(begin (set! v2 3) (set! v1 v2))"}, 2},
		{[]string{"a;;(+ 1 2)", "b;;'b", "c;;((lambda (v1) (not v1)) #f)"}, []string{"a;;3", "b;;'b", "c;;#t"}, 3}, {[]string{"c;;(begin 1 2)", "a;;(begin 3 4 5)", "b;;(if #f 1 2)"}, []string{"c;;2", "a;;5", "b;;2"}, 3}, {[]string{"a;;'()", "b;3;(set! v3 (+ (+ 1 2) 4))"}, []string{"a;;'()", "b;3;(set! v3 7)"}, 2},
		// Globals are not replaced: of this unit, of one before it, assigned or not, and also where they are never assigned.
		{[]string{"a;1;((lambda (v2) (v2 v2)) v1)"}, []string{"a;1;((lambda (v2) (v2 v2)) v1)"}, 0}, {[]string{"a;1;(begin (set! v1 5) ((lambda (v2) (v2 v2)) v1))"}, []string{"a;1;(begin (set! v1 5) ((lambda (v2) (v2 v2)) v1))"}, 0}, {[]string{"a;1;(set! v1 5)", "b;;((lambda (v2) (+ v2 v2)) v1)"}, []string{"a;1;(set! v1 5)", "b;;((lambda (v2) (+ v2 v2)) v1)"}, 0},
		{[]string{"a;1;(set! v1 5)", "b;;((lambda (v2 v3) (+ v2 v3)) 5 v1)"}, []string{"a;1;(set! v1 5)", "b;;((lambda (v2 v3) (+ v2 v3)) 5 v1)"}, 0}, {[]string{"a;1;(set! v1 5)", "b;;((lambda (v2) (+ v2 v1)) 5)"}, []string{"a;1;(set! v1 5)", "b;;(+ 5 v1)"}, 1}, {[]string{"a;1 4;(set! v1 5)", "b;6;(set! v6 (begin v1 1))", "c;;((lambda (v2) ((lambda (v3) (v3 v2)) v4)) v6)"}, []string{"a;1 4;(set! v1 5)", "b;6;(set! v6 (begin v1 1))", "c;;((lambda (v2) ((lambda (v3) (v3 v2)) v4)) v6)"}, 0},
		{[]string{"a;1;(set! v1 5)", "b;;(lambda (v2) ((lambda (v3) (v3 v1)) v2))"}, []string{"a;1;(set! v1 5)", "b;;(lambda (v2) (v2 v1))"}, 1}, {[]string{"a;1;5", "b;;(begin v1 2)"}, []string{"a;1;5", "b;;(begin v1 2)"}, 0}, {[]string{"a;1;(begin (lambda () v1) (if 2 3 v1))"}, []string{"a;1;3"}, 2},
		// One is optimized apart from the others: what is assigned in one is not in another.
		{[]string{"a;1;(set! v1 (lambda (v2) (begin (if #f (set! v2 1) 0) ((lambda (v3) (v3 v3)) v2))))", "b;;((lambda (v4) (set! v4 2)) 4)", "c;;((lambda (v5) (+ v5 1)) 4)"}, []string{"a;1;(set! v1 (lambda (v2) (v2 v2)))", "b;;((lambda (v4) (set! v4 2)) 4)", "c;;5"}, 5},
		// Rules within a sequence that gets too many kids do not count.
		{[]string{"a;1;(v1 (begin (if #t (begin (v1) (v1)) 0)" + calls(1, 59) + "))", "b;;(+ 1 2)"}, []string{"a;1;(v1 (begin (if #t (begin (v1) (v1)) 0)" + calls(1, 59) + "))", "b;;3"}, 1}, {[]string{"a;1;(v1 (begin (if #t (begin (v1) (v1)) 0)" + calls(1, 58) + "))"}, []string{"a;1;(v1 (begin (v1) (v1)" + calls(1, 58) + "))"}, 1},
	} {
		list, wanted := units(t, s.units...), units(t, s.wanted...)
		checkUnitsOptimized(t, list, wanted, s.rules)
		checkUnitsOptimized(t, wanted, wanted, 0)
	}
	checkUnitsOptimized(t, []impl.Unit{}, nil, 0)
	checkUnitsOptimized(t, manyUnits(constants(12)...), manyUnits(constants(12)...), 0)
}

func TestOptimizeUnitsThatAreNotValid(t *testing.T) {
	for _, list := range [][]impl.Unit{
		{{}}, {{Name: "a"}}, units(t, "a;;v1"), units(t, "a;;(+ 1 2)", "b;;v1"), units(t, "a;;v1", "b;1;(+ 1 2)"), units(t, "a;;(+ 1 2)", "a;;2"), units(t, "a;1;1", "b;1;(+ 1 2)"), units(t, "A;;(+ 1 2)"), units(t, "toolongname;;(+ 1 2)"), units(t, "a;1;((lambda (v1) 1) 2)"), units(t, "a;-1;(+ 1 2)"), units(t, "a;100000;(+ 1 2)"),
		units(t, "a;;((lambda (v1) 1) 2)", "b;;((lambda (v1) 1) 2)"), units(t, "a;;(+ 1 2)", "b;;(begin 2)"), units(t, "a;1 1;(+ 1 2)"), manyUnits(constants(13)...), manyUnits(node(impl.CoreSequence, constants(60)...), applied("+", constants(2)...)), manyUnits(sized(2999), applied("+", constants(2)...)), manyUnits(within(149, constant(number(1)))),
		manyUnits(sized(3000)), units(t, "a;;(+ 1 2)", "b;;(if #t 1 v-1)"),
	} {
		checkUnitsOptimized(t, list, nil, 0)
	}
	if got, rules := impl.OptimizeUnits(manyUnits(constant(number(1)), branching(100))); len(got) != 0 || rules != 0 {
		t.Errorf("units of 2^100 nodes are optimized to %s, %d", showUnits(got), rules)
	}
	// At the limits of units.
	for _, list := range [][]impl.Unit{manyUnits(node(impl.CoreSequence, constants(59)...), applied("+", constants(2)...)), manyUnits(sized(2999)), manyUnits(within(147, applied("not", constant(number(1))))), manyUnits(within(148, constant(number(1)))), {unit("a", from(0, 60), applied("+", useOf(0), useOf(59)))}} {
		wanted, rules := describedUnits(list)
		checkUnitsOptimized(t, list, wanted, rules)
		if len(wanted) != len(list) {
			t.Errorf("%s are not valid", showUnits(list))
		}
	}
}

// Each body is optimized apart from the others, so that together they may have
// more kids than those of valid units.
func TestOptimizedUnitsMayHaveManyKids(t *testing.T) {
	list := units(t, "a;1;(begin"+calls(1, 30)+")", "b;;((lambda () (begin"+calls(1, 30)+")))")
	wanted := units(t, "a;1;(begin"+calls(1, 30)+")", "b;;(begin"+calls(1, 30)+")")
	checkUnitsOptimized(t, list, wanted, 1)
	if x := impl.EvaluateProgram(wanted, 10); isZeroOutcome(x) {
		t.Error("units of 60 kids are not valid")
	}
	list = units(t, "a;1;(begin"+calls(1, 30)+")", "b;;((lambda () (begin"+calls(1, 31)+")))")
	wanted = units(t, "a;1;(begin"+calls(1, 30)+")", "b;;(begin"+calls(1, 31)+")")
	checkUnitsOptimized(t, list, wanted, 1)
	checkUnitsOptimized(t, wanted, nil, 0)
}

func TestOptimizeAnyUnits(t *testing.T) {
	g := generator(257)
	valid, all := 0, 0
	for i := range 2500 {
		list := g.anyUnits()
		for k, u := range list {
			if i%2 == 0 && isGoodAlone(u.Body) {
				list[k].Body = g.obscured(u.Body, 2)
			}
		}
		wanted, rules := describedUnits(list)
		checkUnitsOptimized(t, list, wanted, rules)
		if len(wanted) == 0 {
			continue
		}
		valid, all = valid+1, all+rules
		checkUnitsKeep(t, list, wanted)
	}
	if valid < 1000 || all < 2000 {
		t.Errorf("%d units are valid, with %d rules", valid, all)
	}
}

// checkUnitsKeep checks P8 for a program, and that its units are not changed
// again.
func checkUnitsKeep(t *testing.T, before, after []impl.Unit) impl.Outcome {
	t.Helper()
	if !areGoodUnits(after) {
		return impl.Outcome{}
	}
	checkUnitsOptimized(t, after, after, 0)
	for _, budget := range []int{10, 500} {
		if x, y := impl.EvaluateProgram(before, budget), impl.EvaluateProgram(after, budget); !isNoWorse(x, y) {
			t.Errorf("the units %s have with %d the outcome %s, and %s, which they were, %s", showUnits(after), budget, showOutcome(y), showUnits(before), showOutcome(x))
		}
	}
	return impl.EvaluateProgram(before, 500)
}

// Programs of modules, with their macros.
func TestP8Modules(t *testing.T) {
	for _, s := range []struct {
		source        string
		before, after impl.Outcome
	}{
		{"(module p () (a) (define a 3)) (module main (p) () (+ a 1))", done("4", 1, 0), done("4", 1, 0)}, {"(module p () () (let ((a 1) (b 2)) (+ a b)))", done("3", 2, 1), done("3", 0, 0)}, {"(module p () () (let ((a 1) (b 2)) (swap! a b) (cons a b)))", done("(2 . 1)", 3, 3), done("(2 . 1)", 3, 3)},
		{"(module p () () (or #f 5) (and 1 #f 2) (cond (#f 1) ((= 1 1) 2) (else 3)))", done("2", 2, 1), done("2", 0, 0)}, {"(module p () () (let* ((a 1) (b (+ a 1)) (c (* a b))) (display c) (when (< a b) 'yes)))", done("yes", 8, 4, "2"), done("yes", 1, 0, "2")},
		{"(module p () (f) (define k 5) (define (f x) (let ((y x) (z k)) (+ y z)))) (module q (p) () (let ((g f)) (g 1)))", done("6", 4, 3), done("6", 4, 3)}, {"(module p () () (define (f x) (let ((y x)) (+ y y))) (f 4))", done("8", 3, 2), done("8", 2, 1)},
		{"(module p () () (let ((x 1)) (+ 1 (reset (* 2 (shift k (let ((j k)) (j (j 10)))))))))", done("41", 7, 3), done("41", 5, 1)}, {"(module p () () (define (f) g) (f) (define g 1))", failed("variable is not assigned", 1, 1), failed("variable is not assigned", 1, 1)},
	} {
		w := mustLoad(t, s.source)
		after, rules := impl.OptimizeUnits(w.Units)
		wanted, wantedRules := describedUnits(w.Units)
		if !sameUnits(after, wanted) || rules != wantedRules {
			t.Errorf("OptimizeUnits of %s = %s, %d, not %s, %d", s.source, showUnits(after), rules, showUnits(wanted), wantedRules)
		}
		checkUnitsKeep(t, w.Units, after)
		if x := checkProgram(t, w.Units, 5000); !sameOutcome(x, s.before) {
			t.Errorf("%s has the outcome %s, not %s", s.source, showOutcome(x), showOutcome(s.before))
		}
		if y := checkProgram(t, after, 5000); !sameOutcome(y, s.after) {
			t.Errorf("%s, optimized, has the outcome %s, not %s", s.source, showOutcome(y), showOutcome(s.after))
		}
	}
}

func TestP8PlannedPrograms(t *testing.T) {
	status, all := map[int]int{}, 0
	plannedPrograms(263, 250, 1, func(p plannedProgram) {
		w, ok := loadSources(t, p.sources)
		if !ok {
			return
		}
		after, rules := impl.OptimizeUnits(w.Units)
		wanted, wantedRules := describedUnits(w.Units)
		if !sameUnits(after, wanted) || rules != wantedRules {
			t.Errorf("OptimizeUnits of %s = %s, %d, not %s, %d", strings.Join(p.sources, "\n"), showUnits(after), rules, showUnits(wanted), wantedRules)
		}
		status[checkUnitsKeep(t, w.Units, after).Status]++
		all += rules
	})
	if status[impl.StatusDone] < 5 || status[impl.StatusError] < 100 || all < 2000 {
		t.Errorf("outcomes of each status: %v, with %d rules", status, all)
	}
}
