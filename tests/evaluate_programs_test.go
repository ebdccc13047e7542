package tests

import (
	"strings"
	"testing"

	"loop.example/g03220/impl"
)

func describedProgramOutcome(list []impl.Unit, budget int) impl.Outcome {
	if len(list) == 0 || !areGoodUnits(list) {
		return impl.Outcome{}
	}
	return describedOutcome(describedProgram(list), budget)
}

func checkProgram(t *testing.T, list []impl.Unit, budget int) impl.Outcome {
	t.Helper()
	got := impl.EvaluateProgram(list, budget)
	if wanted := describedProgramOutcome(list, budget); !sameOutcome(got, wanted) {
		t.Errorf("EvaluateProgram(%s, %d) = %s, not %s", showUnits(list), budget, showOutcome(got), showOutcome(wanted))
	}
	return got
}

func TestEvaluateProgram(t *testing.T) {
	for _, s := range []struct {
		units  []impl.Unit
		wanted impl.Outcome
	}{
		{nil, impl.Outcome{}}, {[]impl.Unit{}, impl.Outcome{}}, {units(t, "a;;7"), done("7", 0, 0)}, {units(t, "a;;(+ 1 2)"), done("3", 1, 0)}, {units(t, "a;;(begin (display 1) 2)", "b;;(begin (display 3) 4)", "c;;5"), done("5", 2, 0, "1", "3")},
		{units(t, "a;1;(set! v1 5)"), done("#void", 0, 0)}, {units(t, "a;1;v1"), failed("variable is not assigned", 0, 0)}, {units(t, "a;1 2;(begin (set! v2 5) (set! v1 (lambda (v3) (+ v2 v3))))", "b;4;(set! v4 (v1 6))", "c;;(cons v4 v2)"), done("(11 . 5)", 3, 2)},
		{units(t, "a;1;(set! v1 5)", "b;;(begin (set! v1 (+ v1 1)) v1)"), done("6", 1, 0)}, {units(t, "a;1;(lambda () v1)", "b;;(v1)"), failed("variable is not assigned", 0, 1)}, {units(t, "a;1;(1 2)", "b;;(display 1)"), failed("not a procedure", 1, 0)}, {units(t, "a;;(shift v1 1)"), failed("shift outside of reset", 0, 0)},
		{units(t, "a;;(reset (shift v1 1))", "b;;(shift v2 1)"), failed("shift outside of reset", 0, 1)}, {units(t, "a;1;(set! v1 (reset (+ 1 (shift v2 v2))))", "b;;(v1 (v1 5))"), done("7", 4, 1)},
		// Units that are not valid.
		{units(t, "a;;v1"), impl.Outcome{}}, {units(t, "a;;v1", "b;1;1"), impl.Outcome{}}, {units(t, "a;;1", "a;;2"), impl.Outcome{}}, {units(t, "a;1;1", "b;1;2"), impl.Outcome{}}, {units(t, "A;;1"), impl.Outcome{}}, {units(t, "toolongname;;1"), impl.Outcome{}}, {units(t, "a;1;(lambda (v1) 1)"), impl.Outcome{}},
		{units(t, "a;;(lambda (v1) 1)", "b;;(lambda (v1) 1)"), impl.Outcome{}}, {units(t, "a;;1", "b;;(begin 2)"), impl.Outcome{}}, {units(t, "a;-1;1"), impl.Outcome{}}, {[]impl.Unit{{}}, impl.Outcome{}}, {[]impl.Unit{{Name: "a"}}, impl.Outcome{}}, {units(t, "a;1;1", "b;;v2"), impl.Outcome{}},
	} {
		if got := checkProgram(t, s.units, 5000); !sameOutcome(got, s.wanted) {
			t.Errorf("EvaluateProgram(%s) = %s, not %s", showUnits(s.units), showOutcome(got), showOutcome(s.wanted))
		}
		for _, budget := range []int{-1, 5001, leastInt, greatestInt} {
			if got := impl.EvaluateProgram(s.units, budget); !isZeroOutcome(got) {
				t.Errorf("EvaluateProgram(%s, %d) = %s", showUnits(s.units), budget, showOutcome(got))
			}
		}
		for budget := range 5 {
			checkProgram(t, s.units, budget)
		}
	}
	many := manyUnits(constants(12)...)
	if got := checkProgram(t, many, 0); !sameOutcome(got, done("11", 0, 0)) {
		t.Errorf("twelve units have the outcome %s", showOutcome(got))
	}
	if got := checkProgram(t, manyUnits(constants(13)...), 0); !isZeroOutcome(got) {
		t.Errorf("thirteen units have the outcome %s", showOutcome(got))
	}
}

func TestEvaluateAnyUnits(t *testing.T) {
	g := generator(37)
	ended := map[int]int{}
	for range 2000 {
		ended[checkProgram(t, g.anyUnits(), g.below(200)).Status]++
	}
	if ended[impl.StatusRunning] < 200 || ended[impl.StatusDone] < 200 || ended[impl.StatusError] < 200 {
		t.Errorf("outcomes of each status: %v", ended)
	}
}

// Programs with macros.
func TestEvaluateModules(t *testing.T) {
	for _, s := range []struct {
		source string
		wanted impl.Outcome
	}{
		{"(module p () (a) (define a 3)) (module main (p) () (+ a 1))", done("4", 1, 0)}, {"(module p () () (let ((a 1) (b 2)) (swap! a b) (cons a b)))", done("(2 . 1)", 3, 3)}, {"(module p () () (or #f 5) (and 1 #f 2) (cond (#f 1) ((= 1 1) 2) (else 3)))", done("2", 2, 1)},
		{"(module p () () (define i 0) (while (< i 5) (display i) (set! i (+ i 1))) i)", done("5", 23, 2, "0", "1", "2", "3", "4")}, {"(module p () () (letrec ((even? (lambda (n) (if (= n 0) #t (odd? (- n 1))))) (odd? (lambda (n) (if (= n 0) #f (even? (- n 1)))))) (cons (even? 7) (odd? 7))))", done("(#f . #t)", 49, 5)},
		{"(module p () (yield each) (define k 0) (define (yield x) (shift c (begin (set! k c) x))) (define-syntax each (syntax-rules () ((_ f e) (let () (define (go x) (if (pair? x) (begin (f (car x)) (go (k (cdr x)))) 'end)) (go (reset e)))))))\n(module q (p) () (define (walk l) (if (null? l) '() (begin (yield l) (walk (cdr l))))) (each display (walk '(a b c))))", done("end", 35, 10, "a", "b", "c")},
		{"(module p () (get add!) (define n 0) (define (get) n) (define-syntax add! (syntax-rules () ((_ e) (set! n (+ n e))))))\n(module q (p) () (define n 5) (add! n) (add! n) (cons n (get)))", done("(5 . 10)", 4, 2)},
		{"(module p () () (define (f) g) (f) (define g 1))", failed("variable is not assigned", 1, 1)}, {"(module p () () (+ 1 (reset (* 2 (shift k (k (k 10)))))))", done("41", 5, 1)},
	} {
		w := mustLoad(t, s.source)
		if got := checkProgram(t, w.Units, 5000); !sameOutcome(got, s.wanted) {
			t.Errorf("%s has the outcome %s, not %s", s.source, showOutcome(got), showOutcome(s.wanted))
		}
	}
}

// Programs with names that could be confused have the outcome of what they
// mean.
func TestEvaluatePlannedPrograms(t *testing.T) {
	ended := map[int]int{}
	plannedPrograms(41, 250, 2, func(p plannedProgram) {
		w, ok := loadSources(t, p.sources)
		if !ok {
			return
		}
		for _, budget := range []int{150, 20} {
			got := impl.EvaluateProgram(w.Units, budget)
			ended[got.Status]++
			if wanted := describedOutcome(p.term, budget); !sameOutcome(got, wanted) {
				t.Errorf("%s has the outcome %s, not %s", strings.Join(p.sources, "\n"), showOutcome(got), showOutcome(wanted))
			}
		}
	})
	if ended[impl.StatusRunning] > 0 || ended[impl.StatusDone] < 20 || ended[impl.StatusError] < 100 {
		t.Errorf("outcomes of each status: %v", ended)
	}
}

func TestEqualOutcomes(t *testing.T) {
	var all []impl.Outcome
	for _, status := range []int{0, 1, 4, -1, 5, leastInt, greatestInt} {
		all = append(all, impl.Outcome{Status: status})
	}
	for _, text := range []string{"a", "b", "ab", " ", "a ", "\x00", "\xff"} {
		all = append(all, impl.Outcome{Text: text}, impl.Outcome{Output: []string{text}})
	}
	for _, n := range []int{1, -1, 2, leastInt, greatestInt} {
		all = append(all, impl.Outcome{Ticks: n}, impl.Outcome{Made: n})
	}
	for _, output := range [][]string{{""}, {"", ""}, {"a", "b"}, {"b", "a"}, {"a", "b", "c"}, {"a b"}, {"a", ""}, {"", "a"}} {
		all = append(all, impl.Outcome{Output: output}, impl.Outcome{Status: 1, Text: "a", Output: output, Ticks: 1, Made: 1})
	}
	for i, a := range all {
		for j, b := range all {
			b.Output = append([]string{}, b.Output...)
			if got := impl.EqualOutcomes(a, b); got != (i == j) || sameOutcome(a, b) != got {
				t.Errorf("EqualOutcomes(%s, %s) = %v", showOutcome(a), showOutcome(b), got)
			}
		}
	}
	if !impl.EqualOutcomes(impl.Outcome{Output: nil}, impl.Outcome{Output: []string{}}) || !impl.EqualOutcomes(impl.Outcome{Output: []string{}}, impl.Outcome{Output: nil}) {
		t.Error("a nil slice does not equal an empty one")
	}
	// Outcomes that differ in one field from one of all fields.
	full := ended(impl.StatusDone, "a", 2, 3, "b", "c")
	for _, other := range []impl.Outcome{ended(2, "a", 2, 3, "b", "c"), ended(1, "b", 2, 3, "b", "c"), ended(1, "a", 3, 3, "b", "c"), ended(1, "a", 2, 2, "b", "c"), ended(1, "a", 2, 3, "b", "d"), ended(1, "a", 2, 3, "c", "c"), ended(1, "a", 2, 3, "b"), ended(1, "a", 2, 3), ended(1, "a", 3, 2, "b", "c")} {
		if impl.EqualOutcomes(full, other) || impl.EqualOutcomes(other, full) {
			t.Errorf("%s equals %s", showOutcome(full), showOutcome(other))
		}
	}
}

func TestFormatOutcome(t *testing.T) {
	for _, s := range []struct {
		x      impl.Outcome
		wanted string
	}{
		{done("7", 1, 2), "value 7"}, {done("7", 1, 2, "a"), "value 7 after a"}, {done("(1 2)", 0, 0, "a", "\"b c\"", "()"), "value (1 2) after a \"b c\" ()"}, {done("", 0, 0), "value "}, {done("", 0, 0, ""), "value  after "}, {done("a after b", 0, 0, "after", ""), "value a after b after after "},
		{failed("number too large", 5, 2), "error: number too large"}, {failed("car: bad argument", 5, 2, "1", "2"), "error: car: bad argument after 1 2"}, {failed("", 0, 0), "error: "}, {outOfTicks(5, 2), "out of ticks"}, {outOfTicks(5, 2, "1"), "out of ticks after 1"}, {outOfTicks(0, 0, "", ""), "out of ticks after  "},
		{full(5, 2), "out of memory"}, {full(5, 2, "x", "y", "z"), "out of memory after x y z"}, {ended(impl.StatusTicks, "text", 1, 2), "out of tickstext"}, {ended(impl.StatusFull, " text", 1, 2, "a"), "out of memory text after a"}, {ended(impl.StatusDone, "\xff\n", leastInt, greatestInt, "\x00"), "value \xff\n after \x00"},
		{impl.Outcome{Status: impl.StatusDone, Output: []string{}}, "value "},
	} {
		if got := impl.FormatOutcome(s.x); got != s.wanted {
			t.Errorf("FormatOutcome(%s) = %q, not %q", showOutcome(s.x), got, s.wanted)
		}
	}
	for _, status := range []int{0, -1, 5, 6, 257, leastInt, greatestInt, 1 << 32, 1<<32 + 1} {
		for _, x := range []impl.Outcome{{Status: status}, ended(status, "a", 1, 2), ended(status, "a", 1, 2, "b", "c")} {
			if got := impl.FormatOutcome(x); got != "" {
				t.Errorf("FormatOutcome(%s) = %q", showOutcome(x), got)
			}
		}
	}
}
