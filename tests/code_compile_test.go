package tests

import (
	"fmt"
	"slices"
	"strings"
	"testing"

	"loop.example/g03220/impl"
)

// A compileCase is a term and its image.
type compileCase struct{ source, wanted string }

func checkCompileCases(t *testing.T, cases []compileCase) {
	t.Helper()
	for _, s := range cases {
		checkCompiled(t, term(t, s.source), image(t, s.wanted))
	}
}

func TestCompileEachKind(t *testing.T) {
	checkCompileCases(t, []compileCase{
		// At the tail.
		{"5", "0 0 0: constant 5; return"}, {"'(a (1) \"b\")", "0 0 0: constant (a (1) \"b\"); return"}, {"'()", "0 0 0: constant (); return"}, {"+", "0 0 0: primitive 0; return"}, {"display", "0 0 0: primitive 13; return"},
		{"(lambda () 1)", "0 0 0: constant 1; return / 0 0 0: closure 0; return"}, {"(lambda (v1) v1)", "1 1 0: local 0; return / 0 0 0: closure 0; return"}, {"(lambda (v3 v1 v2) v2)", "3 3 0: local 2; return / 0 0 0: closure 0; return"}, {"(lambda (v1 v2 v3 v4 v5 v6 v7 v8) v8)", "8 8 0: local 7; return / 0 0 0: closure 0; return"}, {"(lambda (v1) (set! v1 5))", "1 1 0: box-param 0; constant 5; write-local 0; return / 0 0 0: closure 0; return"},
		{"(reset 1)", "0 0 0: constant 1; return / 0 0 0: reset 0; return"}, {"(shift v1 v1)", "1 1 0: local 0; return / 0 0 0: shift 0; return"}, {"(shift v1 2)", "1 1 0: constant 2; return / 0 0 0: shift 0; return"},
		{"(+)", "0 0 0: primitive 0; tail-call 0"}, {"(+ 1 2)", "0 0 0: primitive 0; constant 1; constant 2; tail-call 2"}, {"(- 1 2 3 4 5 6 7 8)", "0 0 0: primitive 1; constant 1; constant 2; constant 3; constant 4; constant 5; constant 6; constant 7; constant 8; tail-call 8"},
		{"(if 1 2 3)", "0 0 0: constant 1; jump-if-false 4; constant 2; return; constant 3; return"}, {"(begin 1 2)", "0 0 0: constant 1; pop; constant 2; return"}, {"(begin 1 2 3)", "0 0 0: constant 1; pop; constant 2; pop; constant 3; return"}, {"(local (v1) 1)", "0 1 0: new-box 0; constant 1; return"}, {"(local (v1) v1)", "0 1 0: new-box 0; read-local 0; return"},
		{"(local (v2 v1) (set! v1 1) (set! v2 3) v1)", "0 2 0: new-box 0; new-box 1; constant 1; write-local 1; pop; constant 3; write-local 0; pop; read-local 1; return"}, {"(local (v1) (set! v1 1))", "0 1 0: new-box 0; constant 1; write-local 0; return"},
		// Not at the tail.
		{"(car 5 +)", "0 0 0: primitive 6; constant 5; primitive 0; tail-call 2"}, {"((lambda (v1) v1) 2)", "1 1 0: local 0; return / 0 0 0: closure 0; constant 2; tail-call 1"}, {"(car (reset 1))", "0 0 0: constant 1; return / 0 0 0: primitive 6; reset 0; tail-call 1"}, {"(car (shift v1 v1))", "1 1 0: local 0; return / 0 0 0: primitive 6; shift 0; tail-call 1"}, {"(car (+ 1 2))", "0 0 0: primitive 6; primitive 0; constant 1; constant 2; call 2; tail-call 1"}, {"((car) 1)", "0 0 0: primitive 6; call 0; constant 1; tail-call 1"},
		{"(car (if 1 2 3))", "0 0 0: primitive 6; constant 1; jump-if-false 5; constant 2; jump 6; constant 3; tail-call 1"}, {"(car (begin 1 2))", "0 0 0: primitive 6; constant 1; pop; constant 2; tail-call 1"}, {"(car (local (v1) 1 v1))", "0 1 0: primitive 6; new-box 0; constant 1; pop; read-local 0; tail-call 1"}, {"(car (local (v1) (set! v1 2)))", "0 1 0: primitive 6; new-box 0; constant 2; write-local 0; tail-call 1"},
	})
}

func TestCompileTails(t *testing.T) {
	checkCompileCases(t, []compileCase{
		// Within each kind that has a tail, and as each kid that is not at it.
		{"(if (car 1) (car 2) (car 3))", "0 0 0: primitive 6; constant 1; call 1; jump-if-false 7; primitive 6; constant 2; tail-call 1; primitive 6; constant 3; tail-call 1"}, {"(begin (car 1) (car 2) (car 3))", "0 0 0: primitive 6; constant 1; call 1; pop; primitive 6; constant 2; call 1; pop; primitive 6; constant 3; tail-call 1"}, {"(local (v1) (car 1) (car 2))", "0 1 0: new-box 0; primitive 6; constant 1; call 1; pop; primitive 6; constant 2; tail-call 1"},
		{"(lambda () (car 1))", "0 0 0: primitive 6; constant 1; tail-call 1 / 0 0 0: closure 0; return"}, {"(reset (car 1))", "0 0 0: primitive 6; constant 1; tail-call 1 / 0 0 0: reset 0; return"}, {"(shift v1 (v1 1))", "1 1 0: local 0; constant 1; tail-call 1 / 0 0 0: shift 0; return"}, {"(local (v1) (set! v1 (car 1)))", "0 1 0: new-box 0; primitive 6; constant 1; call 1; write-local 0; return"},
		{"(lambda (v1) (set! v1 (if v1 2 3)))", "1 1 0: box-param 0; read-local 0; jump-if-false 5; constant 2; jump 6; constant 3; write-local 0; return / 0 0 0: closure 0; return"}, {"(car (lambda () (car 1)))", "0 0 0: primitive 6; constant 1; tail-call 1 / 0 0 0: primitive 6; closure 0; tail-call 1"},
		// Several of them in each other.
		{"(if 1 (if 2 3 4) 5)", "0 0 0: constant 1; jump-if-false 8; constant 2; jump-if-false 6; constant 3; return; constant 4; return; constant 5; return"}, {"(if 1 2 (if 3 4 5))", "0 0 0: constant 1; jump-if-false 4; constant 2; return; constant 3; jump-if-false 8; constant 4; return; constant 5; return"}, {"(if (if 1 2 3) 4 5)", "0 0 0: constant 1; jump-if-false 4; constant 2; jump 5; constant 3; jump-if-false 8; constant 4; return; constant 5; return"},
		{"(car (if 1 (if 2 3 4) 5))", "0 0 0: primitive 6; constant 1; jump-if-false 9; constant 2; jump-if-false 7; constant 3; jump 8; constant 4; jump 10; constant 5; tail-call 1"}, {"(car (if 1 2 (if 3 4 5)))", "0 0 0: primitive 6; constant 1; jump-if-false 5; constant 2; jump 10; constant 3; jump-if-false 9; constant 4; jump 10; constant 5; tail-call 1"}, {"(begin (if 1 2 3) 4)", "0 0 0: constant 1; jump-if-false 4; constant 2; jump 5; constant 3; pop; constant 4; return"},
		{"(begin 1 (if 2 (begin 3 (car 4)) (local (v1) 5 (car 6))))", "0 1 0: constant 1; pop; constant 2; jump-if-false 9; constant 3; pop; primitive 6; constant 4; tail-call 1; new-box 0; constant 5; pop; primitive 6; constant 6; tail-call 1"}, {"(local (v1) (local (v2) (begin 1 (if 2 car cdr))))", "0 2 0: new-box 0; new-box 1; constant 1; pop; constant 2; jump-if-false 8; primitive 6; return; primitive 7; return"},
	})
}

func TestCompileVariables(t *testing.T) {
	checkCompileCases(t, []compileCase{
		// Boxed and other ones, as parameters.
		{"(lambda (v1 v2 v3) (begin (set! v2 v1) (cons v2 v3)))", "3 3 0: box-param 1; local 0; write-local 1; pop; primitive 5; read-local 1; local 2; tail-call 2 / 0 0 0: closure 0; return"}, {"(lambda (v1 v2 v3) (begin (set! v3 v2) (set! v1 v3)))", "3 3 0: box-param 0; box-param 2; local 1; write-local 2; pop; read-local 2; write-local 0; return / 0 0 0: closure 0; return"}, {"(lambda (v2 v1) (begin (set! v1 0) (set! v2 0)))", "2 2 0: box-param 0; box-param 1; constant 0; write-local 1; pop; constant 0; write-local 0; return / 0 0 0: closure 0; return"},
		{"(shift v1 (set! v1 v1))", "1 1 0: box-param 0; read-local 0; write-local 0; return / 0 0 0: shift 0; return"}, {"(shift v1 (begin (set! v1 5) v1))", "1 1 0: box-param 0; constant 5; write-local 0; pop; read-local 0; return / 0 0 0: shift 0; return"}, {"(lambda (v1 v2) 5)", "2 2 0: constant 5; return / 0 0 0: closure 0; return"},
		// As slots of a local, in another one, and side by side.
		{"(local (v1) (local (v2) (set! v1 v2) (set! v2 v1)))", "0 2 0: new-box 0; new-box 1; read-local 1; write-local 0; pop; read-local 0; write-local 1; return"}, {"(begin (local (v1) v1) (local (v2 v3) v3))", "0 3 0: new-box 0; read-local 0; pop; new-box 1; new-box 2; read-local 2; return"}, {"(lambda (v1 v2) (local (v3) (set! v3 v1) (local (v4) v2 v3 v4)))", "2 4 0: new-box 2; local 0; write-local 2; pop; new-box 3; local 1; pop; read-local 2; pop; read-local 3; return / 0 0 0: closure 0; return"},
		{"(if (local (v1) 1) (local (v2) v2) (local (v3) (set! v3 1)))", "0 3 0: new-box 0; constant 1; jump-if-false 6; new-box 1; read-local 1; return; new-box 2; constant 1; write-local 2; return"}, {"(local (v1) (set! v1 (local (v2) (local (v3) v2) v1)) (local (v4) v4))", "0 4 0: new-box 0; new-box 1; new-box 2; read-local 1; pop; read-local 0; write-local 0; pop; new-box 3; read-local 3; return"}, {"(local (v9 v5 v7) (begin v7 v5 v9))", "0 3 0: new-box 0; new-box 1; new-box 2; read-local 2; pop; read-local 1; pop; read-local 0; return"},
		// Captured, by one procedure and by several in each other.
		{"(lambda (v1) (lambda () v1))", "0 0 1: captured 0; return / 1 1 0: local 0; closure 0; return / 0 0 0: closure 1; return"}, {"(lambda (v1 v2) (lambda (v3) (v3 v2 v1)))", "1 1 2: local 0; captured 0; captured 1; tail-call 2 / 2 2 0: local 1; local 0; closure 0; return / 0 0 0: closure 1; return"}, {"(lambda (v1) (lambda () (lambda () v1)))", "0 0 1: captured 0; return / 0 0 1: captured 0; closure 0; return / 1 1 0: local 0; closure 1; return / 0 0 0: closure 2; return"}, {"(lambda (v1) (lambda (v2) (lambda (v3) (v3 v2 v1 v2))))", "1 1 2: local 0; captured 0; captured 1; captured 0; tail-call 3 / 1 1 1: local 0; captured 0; closure 0; return / 1 1 0: local 0; closure 1; return / 0 0 0: closure 2; return"},
		{"(lambda (v1) (begin (lambda () v1) (lambda () v1)))", "0 0 1: captured 0; return / 0 0 1: captured 0; return / 1 1 0: local 0; closure 0; pop; local 0; closure 1; return / 0 0 0: closure 2; return"}, {"(lambda (v1) (lambda () (begin v1 (lambda () v1))))", "0 0 1: captured 0; return / 0 0 1: captured 0; pop; captured 0; closure 0; return / 1 1 0: local 0; closure 1; return / 0 0 0: closure 2; return"},
		// Captured boxes.
		{"(lambda (v1) (lambda () (set! v1 v1)))", "0 0 1: read-box 0; write-box 0; return / 1 1 0: box-param 0; local 0; closure 0; return / 0 0 0: closure 1; return"}, {"(lambda (v1) (begin (lambda () v1) (set! v1 2)))", "0 0 1: read-box 0; return / 1 1 0: box-param 0; local 0; closure 0; pop; constant 2; write-local 0; return / 0 0 0: closure 1; return"}, {"(local (v1) (lambda () v1))", "0 0 1: read-box 0; return / 0 1 0: new-box 0; local 0; closure 0; return"}, {"(local (v1) (lambda () (lambda () (set! v1 1))))", "0 0 1: constant 1; write-box 0; return / 0 0 1: captured 0; closure 0; return / 0 1 0: new-box 0; local 0; closure 1; return"},
		{"(lambda (v1) (local (v2) (lambda (v3) (begin (set! v3 v1) (set! v2 v3)))))", "1 1 2: box-param 0; captured 0; write-local 0; pop; read-local 0; write-box 1; return / 1 2 0: new-box 1; local 0; local 1; closure 0; return / 0 0 0: closure 1; return"},
		// A shift and a reset that capture.
		{"(lambda (v1) (reset v1))", "0 0 1: captured 0; return / 1 1 0: local 0; reset 0; return / 0 0 0: closure 1; return"}, {"(lambda (v1) (shift v2 (v2 v1)))", "1 1 1: local 0; captured 0; tail-call 1 / 1 1 0: local 0; shift 0; return / 0 0 0: closure 1; return"}, {"(lambda (v1) (shift v2 (lambda () (v2 v1))))", "0 0 2: captured 0; captured 1; tail-call 1 / 1 1 1: local 0; captured 0; closure 0; return / 1 1 0: local 0; shift 1; return / 0 0 0: closure 2; return"}, {"(local (v1 v2) (reset (shift v3 (begin (set! v2 v3) (v3 v1)))))", "1 1 2: local 0; write-box 0; pop; local 0; read-box 1; tail-call 1 / 0 0 2: captured 0; captured 1; shift 0; return / 0 2 0: new-box 0; new-box 1; local 1; local 0; reset 1; return"},
		{"(lambda (v1) (reset (reset (shift v2 v1))))", "1 1 1: captured 0; return / 0 0 1: captured 0; shift 0; return / 0 0 1: captured 0; reset 1; return / 1 1 0: local 0; reset 2; return / 0 0 0: closure 3; return"},
		// The order in which variables stand in the body, not that of the binders.
		{"(lambda (v1 v2 v3) (lambda () (v3 v1 v3 v2 v1)))", "0 0 3: captured 0; captured 1; captured 0; captured 2; captured 1; tail-call 4 / 3 3 0: local 2; local 0; local 1; closure 0; return / 0 0 0: closure 1; return"}, {"(lambda (v1 v2) (lambda () (begin (set! v2 (set! v1 5)) v1)))", "0 0 2: constant 5; write-box 1; write-box 0; pop; read-box 1; return / 2 2 0: box-param 0; box-param 1; local 1; local 0; closure 0; return / 0 0 0: closure 1; return"}, {"(lambda (v1 v2) (lambda () ((lambda () v2) v1)))", "0 0 1: captured 0; return / 0 0 2: captured 0; closure 0; captured 1; tail-call 1 / 2 2 0: local 1; local 0; closure 1; return / 0 0 0: closure 2; return"},
		{"(lambda (v1 v2) (lambda (v4) ((lambda (v3) (v3 v4 v2 v1)) v1)))", "1 1 3: local 0; captured 0; captured 1; captured 2; tail-call 3 / 1 1 2: local 0; captured 0; captured 1; closure 0; captured 1; tail-call 1 / 2 2 0: local 1; local 0; closure 1; return / 0 0 0: closure 2; return"},
	})
}

func TestCompileOrderOfCodes(t *testing.T) {
	checkCompileCases(t, []compileCase{
		{"((lambda () 1) (lambda () 2) (lambda () 3))", "0 0 0: constant 1; return / 0 0 0: constant 2; return / 0 0 0: constant 3; return / 0 0 0: closure 0; closure 1; closure 2; tail-call 2"}, {"(lambda () (reset (lambda () 1)))", "0 0 0: constant 1; return / 0 0 0: closure 0; return / 0 0 0: reset 1; return / 0 0 0: closure 2; return"}, {"((lambda () (reset 1)) (shift v1 (lambda () 2)))", "0 0 0: constant 1; return / 0 0 0: reset 0; return / 0 0 0: constant 2; return / 1 1 0: closure 2; return / 0 0 0: closure 1; shift 3; tail-call 1"},
		{"(if (reset 1) (reset (reset 2)) (reset 3))", "0 0 0: constant 1; return / 0 0 0: constant 2; return / 0 0 0: reset 1; return / 0 0 0: constant 3; return / 0 0 0: reset 0; jump-if-false 4; reset 2; return; reset 3; return"}, {"(local (v1) (set! v1 (lambda () (v1))) (reset (v1)))", "0 0 1: read-box 0; tail-call 0 / 0 0 1: read-box 0; tail-call 0 / 0 1 0: new-box 0; local 0; closure 0; write-local 0; pop; local 0; reset 1; return"}, {"(begin (lambda () (begin (reset 1) (reset 2))) (reset 3))", "0 0 0: constant 1; return / 0 0 0: constant 2; return / 0 0 0: reset 0; pop; reset 1; return / 0 0 0: constant 3; return / 0 0 0: closure 2; pop; reset 3; return"},
	})
}

func TestCompileTermsThatAreNotValid(t *testing.T) {
	none := impl.Image{}
	for _, source := range []string{"v1", "(set! v1 2)", "(lambda (v1) v2)", "(car v1)", "(begin 1 v0)", "(lambda (v1) (set! v2 v1))", "(local (v1) (lambda (v2) v3))", "(begin (lambda (v1) v1) v1)", "(shift v1 v2)", "(reset v99999)"} {
		checkCompiled(t, term(t, source), none)
	}
	for _, c := range badCores(t) {
		if impl.DepthOfCore(c) < 1000 && impl.DepthOf(c.Datum) < 1000 {
			checkCompiled(t, c, none)
			checkCompiled(t, node(impl.CoreReset, c), none)
			checkCompiled(t, node(impl.CoreSequence, constant(number(1)), c), none)
		}
	}
	for _, c := range []impl.Core{{}, branching(200), branching(2000), within(deepNesting-1, constant(number(1))), constant(branchingDatum(200)), constant(nested(deepNesting)), node(impl.CoreSequence, constants(1000000)...)} {
		if m, ok := impl.CompileCore(c); ok || !isZeroImage(m) {
			t.Errorf("CompileCore of %s = %s, %v", showCore(c), showImage(m), ok)
		}
		if o, ok := impl.CompileUnit(unit("a", nil, c)); ok || !isZeroObject(o) {
			t.Errorf("CompileUnit of %s = %s, %v", showCore(c), showObject(o), ok)
		}
	}
}

// procedures returns a term with this many nodes that have codes.
func procedures(many int) impl.Core {
	var kids []impl.Core
	for many > 0 {
		n := min(many, 100)
		kids = append(kids, within(n, constant(number(many))))
		many -= n
	}
	return sequence(kids...)
}

// slotted returns a term with this many variables in locals.
func slotted(slots int) impl.Core {
	var kids []impl.Core
	for first := 0; first < slots; first += 60 {
		kids = append(kids, binder(impl.CoreLocal, from(first, min(60, slots-first)), constant(number(first))))
	}
	return sequence(kids...)
}

// filler returns terms that have this many instructions, at least 2, where
// another term stands behind them in a sequence.
func filler(many int) []impl.Core {
	var kids []impl.Core
	for many > 0 {
		// A local with this many constants has twice as many instructions and one more.
		constants := min(60, (many-1)/2)
		if many%2 == 0 {
			constants = min(60, (many-4)/2)
		}
		if many == 2 || many == 4 {
			kids, many = append(kids, constant(number(many))), many-2
			continue
		}
		kids, many = append(kids, binder(impl.CoreLocal, []int{5000 + len(kids)}, repeated(constants)...)), many-2*constants-1
	}
	return kids
}

// repeated returns a constant this many times.
func repeated(n int) []impl.Core { return slices.Repeat([]impl.Core{constant(number(1))}, n) }

// capturing returns a term with a procedure that uses this many variables, each
// of which is in a slot of one of several codes.
func capturing(many int) impl.Core {
	var uses []impl.Core
	for n := range many {
		uses = append(uses, useOf(n))
	}
	for len(uses) > 1 {
		var next []impl.Core
		for first := 0; first < len(uses); first += 60 {
			next = append(next, sequenceWithin(uses[first:min(first+60, len(uses))]))
		}
		uses = next
	}
	c := procedure(nil, uses[0])
	for first := 0; first < many; first += 60 {
		c = binder(impl.CoreLocal, from(first, min(60, many-first)), procedure(nil, c))
	}
	return c
}

// sequenceWithin returns a term with these kids that is no sequence.
func sequenceWithin(kids []impl.Core) impl.Core {
	return node(impl.CoreIf, constant(boolean(1)), sequence(kids...), constant(boolean(0)))
}

func TestCompileUpToTheLimits(t *testing.T) {
	check := func(label string, c impl.Core, ok bool) {
		t.Helper()
		if !isGoodCore(c, nil) {
			t.Errorf("%s: the term is not valid", label)
		}
		wanted, fine := describedCompile(c)
		if fine != ok {
			t.Errorf("%s: the second compiler has %v", label, fine)
		}
		checkCompiled(t, c, wanted)
	}
	for _, many := range []int{2, 1000, 1498, 1499, 1500, 1501, 1700} {
		check(fmt.Sprint(many, " procedures"), procedures(many), many+1 <= 1500)
	}
	for _, slots := range []int{1, 61, 499, 500, 501, 502, 700} {
		check(fmt.Sprint(slots, " slots"), slotted(slots), slots <= 500)
	}
	for _, many := range []int{4, 5, 6, 7, 8, 9, 121, 123, 124, 130, 500, 3998, 3999, 4000, 4001, 4002, 5000} {
		c := node(impl.CoreSequence, append(filler(many-2), constant(symbol("last")))...)
		if got := len(describedCode(c, nil)) - 1; got != many {
			t.Errorf("%d instructions, not %d", got, many)
		}
		check(fmt.Sprint(many, " instructions"), c, many <= 4000)
	}
	for _, captured := range []int{1, 60, 100, 300, 499, 500, 501, 502} {
		check(fmt.Sprint(captured, " captured variables"), capturing(captured), captured <= 500)
	}
	// The values on the stack: those of an application, and the captured variables
	// of a procedure that is its argument.
	for _, captured := range []int{490, 499, 500} {
		for _, before := range []int{1, 2, 8} {
			c := capturing(captured)
			at := innermost(&c)
			*at = called(append(repeated(before), *at)...)
			check(fmt.Sprint(before, " values and ", captured, " captured variables"), c, before+captured <= 500)
		}
	}
}

// innermost returns the procedure of capturing that uses all variables.
func innermost(c *impl.Core) *impl.Core {
	nodes := nodesOf(c)
	at := slices.IndexFunc(nodes, func(c *impl.Core) bool { return c.Kind == impl.CoreLambda && c.Kids[0].Kind == impl.CoreIf })
	return nodes[at]
}

// A term in which many variables are captured by many procedures in each other
// has more instructions than all codes of an image may have.
func TestCompileManyInstrs(t *testing.T) {
	for _, all := range []int{15998, 15999, 16000, 16001, 16002, 30000} {
		c := capturing(450)
		at := innermost(&c)
		// Each procedure around has an instruction for each variable, and two more.
		for range (all - 2 - countInstrs(c)) / 452 {
			*at = procedure(nil, *at)
		}
		c = node(impl.CoreSequence, append(filler(all-countInstrs(c)), c)...)
		if got := countInstrs(c); got != all {
			t.Errorf("%d instructions, not %d", got, all)
		}
		wanted, ok := describedCompile(c)
		if ok != (all <= 16000) {
			t.Errorf("the second compiler has %v for %d instructions", ok, all)
		}
		checkCompiled(t, c, wanted)
	}
}

// countInstrs returns how many instructions a term has in all codes.
func countInstrs(c impl.Core) int {
	isInstr := func(line string) bool { return !strings.HasPrefix(line, "code ") }
	return countIf(describedCode(c, nil), isInstr)
}

func countIf[T any](list []T, isOne func(x T) bool) int {
	n := 0
	for _, x := range list {
		n += count(isOne(x))
	}
	return n
}

func TestCompileSmallTerms(t *testing.T) {
	valid := 0
	for _, c := range smallCores(3, 1, 2) {
		c = binder(impl.CoreLambda, []int{1, 2}, c)
		if !isGoodCore(c, nil) {
			c = c.Kids[0]
		}
		wanted, ok := describedCompile(c)
		valid += count(ok)
		checkCompiled(t, c, wanted)
		if t.Failed() {
			return
		}
	}
	if valid < 300 {
		t.Errorf("only %d terms are compiled", valid)
	}
}

// P9: compiled terms are valid images, with stacks that fit.
func TestP9GeneratedTerms(t *testing.T) {
	g := generator(349)
	codes, all := 0, 3000
	for i := range all {
		var c impl.Core
		if i%2 == 0 {
			c = g.program(2 + i%5)
		} else {
			c = g.closed(g.core(1 + i%4))
		}
		wanted, ok := describedCompile(c)
		if !ok {
			t.Errorf("the second compiler does not compile %s", showTerm(c))
		}
		codes += len(wanted.Codes)
		checkCompiled(t, c, wanted)
		if t.Failed() {
			return
		}
	}
	if codes < 3*all {
		t.Errorf("%d terms have only %d codes", all, codes)
	}
}

// P9: other names of variables make no difference, as they stand in no code.
func TestP9Names(t *testing.T) {
	g := generator(353)
	for i := range 500 {
		c := g.program(2 + i%4)
		other := g.renamedBinders(c)
		m, _ := impl.CompileCore(c)
		if got, ok := impl.CompileCore(other); !ok || !sameImage(got, m) {
			t.Errorf("CompileCore(%s) = %s, but %s for %s", showTerm(other), showImage(got), showImage(m), showTerm(c))
		}
	}
}
