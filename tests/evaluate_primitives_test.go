package tests

import (
	"testing"

	"loop.example/g03220/impl"
)

var primitiveNumbers = []int{0, 1, 2, 3, 4, 5, 6, 7, 8, 9, 10, 11, 12, 13, 14, 15, -1, -2, 256, leastInt, leastInt + 1, greatestInt, 1 << 32, 1<<32 + 11}

func TestArities(t *testing.T) {
	for i, wanted := range []int{2, 2, 2, 2, 2, 2, 1, 1, 1, 1, 1, 2, 1, 1} {
		if got := impl.ArityOf(i); got != wanted || describedArity(i) != wanted {
			t.Errorf("ArityOf(%d) = %d, not %d", i, got, wanted)
		}
	}
	for _, n := range primitiveNumbers[14:] {
		if got := impl.ArityOf(n); got != -1 {
			t.Errorf("ArityOf(%d) = %d", n, got)
		}
	}
}

// wordNumber returns the index of a primitive.
func wordNumber(s string) int { return word(s).Number }

func checkApply(t *testing.T, primitive int, args []impl.Value, pairs []impl.Pair) {
	t.Helper()
	v, problem := impl.ApplyPrimitive(primitive, args, pairs)
	if wanted, wantedProblem := describedApply(primitive, args, pairs); v != wanted || problem != wantedProblem {
		t.Errorf("ApplyPrimitive(%d, %v) with %d pairs = %v, %q, not %v, %q", primitive, args, len(pairs), v, problem, wanted, wantedProblem)
	}
}

func TestPrimitives(t *testing.T) {
	pairs := []impl.Pair{{Head: num(1), Tail: empty()}, {Head: name("a"), Tail: pair(0)}, {Head: pair(1), Tail: truth(0)}}
	for _, s := range []struct {
		word   string
		args   []impl.Value
		wanted impl.Value
	}{
		{"+", []impl.Value{num(2), num(-5)}, num(-3)}, {"-", []impl.Value{num(2), num(-5)}, num(7)}, {"*", []impl.Value{num(-2), num(5)}, num(-10)}, {"*", []impl.Value{num(0), num(greatestNumber)}, num(0)},
		{"+", []impl.Value{num(greatestNumber), num(0)}, num(greatestNumber)}, {"+", []impl.Value{num(999999998), num(1)}, num(greatestNumber)}, {"-", []impl.Value{num(leastNumber), num(0)}, num(leastNumber)}, {"-", []impl.Value{num(-999999998), num(1)}, num(leastNumber)},
		{"-", []impl.Value{num(0), num(leastNumber)}, num(greatestNumber)}, {"*", []impl.Value{num(333333333), num(3)}, num(greatestNumber)}, {"*", []impl.Value{num(-333333333), num(3)}, num(leastNumber)}, {"*", []impl.Value{num(leastNumber), num(-1)}, num(greatestNumber)},
		{"=", []impl.Value{num(3), num(3)}, truth(1)}, {"=", []impl.Value{num(3), num(-3)}, truth(0)}, {"=", []impl.Value{num(leastNumber), num(greatestNumber)}, truth(0)},
		{"<", []impl.Value{num(3), num(3)}, truth(0)}, {"<", []impl.Value{num(-3), num(3)}, truth(1)}, {"<", []impl.Value{num(3), num(-3)}, truth(0)}, {"<", []impl.Value{num(leastNumber), num(greatestNumber)}, truth(1)},
		{"car", []impl.Value{pair(0)}, num(1)}, {"cdr", []impl.Value{pair(0)}, empty()}, {"car", []impl.Value{pair(2)}, pair(1)}, {"cdr", []impl.Value{pair(2)}, truth(0)}, {"cdr", []impl.Value{pair(1)}, pair(0)},
		{"null?", []impl.Value{empty()}, truth(1)}, {"null?", []impl.Value{pair(0)}, truth(0)}, {"null?", []impl.Value{void()}, truth(0)}, {"null?", []impl.Value{truth(0)}, truth(0)},
		{"pair?", []impl.Value{pair(2)}, truth(1)}, {"pair?", []impl.Value{empty()}, truth(0)}, {"pair?", []impl.Value{lambdaValue(2)}, truth(0)}, {"number?", []impl.Value{num(0)}, truth(1)}, {"number?", []impl.Value{truth(1)}, truth(0)},
		{"eq?", []impl.Value{name("a"), name("a")}, truth(1)}, {"eq?", []impl.Value{name("a"), quoted("a")}, truth(0)}, {"eq?", []impl.Value{pair(1), pair(1)}, truth(1)}, {"eq?", []impl.Value{pair(0), pair(1)}, truth(0)},
		{"not", []impl.Value{truth(0)}, truth(1)}, {"not", []impl.Value{truth(1)}, truth(0)}, {"not", []impl.Value{num(0)}, truth(0)}, {"not", []impl.Value{empty()}, truth(0)}, {"not", []impl.Value{void()}, truth(0)},
	} {
		v, problem := impl.ApplyPrimitive(wordNumber(s.word), s.args, pairs)
		if v != s.wanted || problem != "" {
			t.Errorf("ApplyPrimitive of %s to %v = %v, %q", s.word, s.args, v, problem)
		}
		checkApply(t, wordNumber(s.word), s.args, pairs)
	}
}

func TestPrimitiveProblems(t *testing.T) {
	two := []impl.Value{num(1), num(2)}
	bad := []impl.Pair{{Head: pair(0)}}
	for _, s := range []struct {
		primitive int
		args      []impl.Value
		pairs     []impl.Pair
		wanted    string
	}{
		{wordNumber("cons"), two, nil, "not a pure primitive"}, {wordNumber("display"), two[:1], nil, "not a pure primitive"}, {-1, two, nil, "not a pure primitive"}, {14, two[:1], nil, "not a pure primitive"}, {wordNumber("+"), two, bad, "not a pure primitive"},
		{wordNumber("not"), two[:1], chain(2001), "not a pure primitive"}, {wordNumber("cons"), nil, bad, "not a pure primitive"}, {wordNumber("+"), nil, bad, "not a pure primitive"}, {14, []impl.Value{num(leastInt)}, nil, "not a pure primitive"},
		{wordNumber("+"), nil, nil, "wrong number of arguments"}, {wordNumber("+"), two[:1], nil, "wrong number of arguments"}, {wordNumber("eq?"), []impl.Value{num(1), num(2), num(3)}, nil, "wrong number of arguments"}, {wordNumber("car"), nil, nil, "wrong number of arguments"},
		{wordNumber("not"), two, nil, "wrong number of arguments"}, {wordNumber("number?"), []impl.Value{truth(2), num(1)}, nil, "wrong number of arguments"}, {wordNumber("+"), []impl.Value{{Kind: 10}}, nil, "wrong number of arguments"},
		{wordNumber("+"), []impl.Value{num(1), truth(2)}, nil, "not a value"}, {wordNumber("+"), []impl.Value{truth(2), name("a")}, nil, "not a value"}, {wordNumber("+"), []impl.Value{name("a"), truth(2)}, nil, "not a value"}, {wordNumber("eq?"), []impl.Value{{Kind: 10}, {Kind: 10}}, nil, "not a value"},
		{wordNumber("car"), []impl.Value{pair(0)}, nil, "not a value"}, {wordNumber("cdr"), []impl.Value{pair(3)}, chain(3), "not a value"}, {wordNumber("not"), []impl.Value{num(greatestNumber + 1)}, nil, "not a value"}, {wordNumber("null?"), []impl.Value{pair(-1)}, chain(3), "not a value"},
		{wordNumber("*"), []impl.Value{num(greatestInt), num(greatestInt)}, nil, "not a value"},
		{wordNumber("+"), []impl.Value{num(1), name("a")}, nil, "+: bad argument"}, {wordNumber("-"), []impl.Value{truth(1), num(1)}, nil, "-: bad argument"}, {wordNumber("*"), []impl.Value{quoted("1"), quoted("1")}, nil, "*: bad argument"},
		{wordNumber("="), []impl.Value{name("a"), name("a")}, nil, "=: bad argument"}, {wordNumber("<"), []impl.Value{empty(), num(greatestNumber)}, nil, "<: bad argument"}, {wordNumber("car"), []impl.Value{empty()}, nil, "car: bad argument"}, {wordNumber("cdr"), []impl.Value{lambdaValue(0)}, chain(1), "cdr: bad argument"},
		{wordNumber("+"), []impl.Value{builtIn(0), num(greatestNumber)}, nil, "+: bad argument"},
		{wordNumber("+"), []impl.Value{num(greatestNumber), num(1)}, nil, "number too large"}, {wordNumber("+"), []impl.Value{num(leastNumber), num(-1)}, nil, "number too large"}, {wordNumber("-"), []impl.Value{num(greatestNumber), num(-1)}, nil, "number too large"},
		{wordNumber("-"), []impl.Value{num(leastNumber), num(1)}, nil, "number too large"}, {wordNumber("*"), []impl.Value{num(500000000), num(2)}, nil, "number too large"}, {wordNumber("*"), []impl.Value{num(-500000000), num(2)}, nil, "number too large"},
		{wordNumber("*"), []impl.Value{num(greatestNumber), num(greatestNumber)}, nil, "number too large"}, {wordNumber("*"), []impl.Value{num(leastNumber), num(greatestNumber)}, nil, "number too large"}, {wordNumber("*"), []impl.Value{num(31623), num(31623)}, nil, "number too large"},
	} {
		v, problem := impl.ApplyPrimitive(s.primitive, s.args, s.pairs)
		if v != void() || problem != s.wanted {
			t.Errorf("ApplyPrimitive(%d, %v) = %v, %q, not %q", s.primitive, s.args, v, problem, s.wanted)
		}
		checkApply(t, s.primitive, s.args, s.pairs)
	}
}

// Each primitive with each one and two values, good or not, and with others of
// them in front or behind.
func TestPrimitivesOfAllValues(t *testing.T) {
	some := append(goodValues(3), badValues(3)...)
	for _, pairs := range [][]impl.Pair{nil, chain(3), chain(2000), chain(2001), {{Tail: pair(0)}}, {{}, {Head: builtIn(14)}}} {
		for _, n := range primitiveNumbers {
			checkApply(t, n, nil, pairs)
			for i, v := range some {
				checkApply(t, n, []impl.Value{v}, pairs)
				checkApply(t, n, []impl.Value{v, v}, pairs)
				checkApply(t, n, []impl.Value{v, v, v}, pairs)
				if len(pairs) > 3 {
					continue
				}
				for _, other := range some[:i] {
					checkApply(t, n, []impl.Value{v, other}, pairs)
					checkApply(t, n, []impl.Value{other, v}, pairs)
				}
				checkApply(t, n, []impl.Value{num(1), v, num(2)}, pairs)
			}
		}
	}
}

func TestPrimitivesAtBounds(t *testing.T) {
	bounds := []int{leastNumber, leastNumber + 1, -500000000, -499999999, -31623, -31622, -2, -1, 0, 1, 2, 31622, 31623, 499999999, 500000000, greatestNumber - 1, greatestNumber}
	large := 0
	for _, word := range []string{"+", "-", "*", "=", "<"} {
		for _, a := range bounds {
			for _, b := range bounds {
				args := []impl.Value{num(a), num(b)}
				checkApply(t, wordNumber(word), args, nil)
				if _, problem := describedApply(wordNumber(word), args, nil); problem == "number too large" {
					large++
				}
			}
		}
	}
	if large < 100 {
		t.Errorf("only %d results are too large", large)
	}
}

// eq? of values that differ in one field, or in none.
func TestEqualValues(t *testing.T) {
	good := goodValues(3)
	equal := 0
	for i, a := range good {
		for j, b := range good {
			v, problem := impl.ApplyPrimitive(wordNumber("eq?"), []impl.Value{a, b}, chain(3))
			if v != yes(a == b) || problem != "" {
				t.Errorf("eq? of %v and %v is %v, %q", a, b, v, problem)
			}
			if i != j && a == b {
				equal++
			}
		}
	}
	if equal > 0 {
		t.Errorf("%d of the values are the same", equal)
	}
}
