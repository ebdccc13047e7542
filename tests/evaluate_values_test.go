package tests

import (
	"slices"
	"strings"
	"testing"

	"loop.example/g03220/impl"
)

// goodValues returns values of each kind where there are this many pairs, at
// least 1, with the first and last numbers.
func goodValues(pairs int) []impl.Value {
	values := []impl.Value{
		void(), empty(), truth(0), truth(1), num(0), num(1), num(-1), num(leastNumber), num(greatestNumber), name("a"), name("-"), name(strings.Repeat("q", 16)),
		quoted(""), quoted("a b"), quoted(" ~!#(;'"), quoted(strings.Repeat("A", 20)), pair(0), pair(pairs - 1),
		lambdaValue(0), lambdaValue(1), lambdaValue(1999), lambdaValue(2000), rest(0), rest(1), rest(1999), rest(2000),
	}
	for n := range primitiveWords {
		values = append(values, builtIn(n))
	}
	return values
}

// badValues returns what is no value where there are this many pairs, each for
// one reason.
func badValues(pairs int) []impl.Value {
	values := []impl.Value{
		truth(2), truth(-1), num(leastNumber - 1), num(greatestNumber + 1), num(leastInt), num(greatestInt), name(""), name("1"), name("-1"), name("A"), name("a b"), name("#t"), name("()"), name("a\n"), name("\xff"), name(strings.Repeat("q", 17)),
		quoted("\""), quoted("\n"), quoted("\x1f"), quoted("\x7f"), quoted("\xff"), quoted("é"), quoted(strings.Repeat("A", 21)), builtIn(-1), builtIn(14), builtIn(leastInt), builtIn(greatestInt),
		pair(-1), pair(pairs), pair(pairs + 1), pair(leastInt), pair(greatestInt), lambdaValue(-1), lambdaValue(2001), lambdaValue(greatestInt), rest(-1), rest(2001), rest(leastInt),
	}
	for _, kind := range []int{-1, 10, 11, 257, leastInt, greatestInt, 1 << 32, 1<<32 + 3} {
		values = append(values, impl.Value{Kind: kind}, impl.Value{Kind: kind, Number: 1}, impl.Value{Kind: kind, Text: "a"})
	}
	// Each kind with a field that it does not have.
	for kind := range 10 {
		switch kind {
		case impl.ValueVoid, impl.ValueEmpty:
			values = append(values, impl.Value{Kind: kind, Number: 1}, impl.Value{Kind: kind, Number: -1}, impl.Value{Kind: kind, Text: "a"})
		case impl.ValueSymbol, impl.ValueString:
			values = append(values, impl.Value{Kind: kind, Number: 1, Text: "a"}, impl.Value{Kind: kind, Number: -1, Text: "a"})
		default:
			values = append(values, impl.Value{Kind: kind, Text: "a"}, impl.Value{Kind: kind, Number: 0, Text: " "})
		}
	}
	return values
}

// chain returns pairs each of which has the one before it as Tail.
func chain(count int) []impl.Pair {
	pairs := make([]impl.Pair, count)
	tail := empty()
	for i := range pairs {
		pairs[i] = impl.Pair{Head: num(i), Tail: tail}
		tail = pair(i)
	}
	return pairs
}

// doubling returns pairs each of which has the one before it twice, so that the
// text of the last one is longer than anything can be.
func doubling(count int) []impl.Pair {
	pairs := make([]impl.Pair, count)
	for i := range pairs {
		v := empty()
		if i > 0 {
			v = pair(i - 1)
		}
		pairs[i] = impl.Pair{Head: v, Tail: v}
	}
	return pairs
}

func TestValues(t *testing.T) {
	for _, count := range []int{1, 2, 7, 2000} {
		pairs := chain(count)
		for _, v := range goodValues(count) {
			if !isGoodAmong(v, pairs) || !impl.IsValue(v, pairs) {
				t.Errorf("IsValue(%v) among %d pairs = false", v, count)
			}
		}
		for _, v := range badValues(count) {
			if isGoodAmong(v, pairs) || impl.IsValue(v, pairs) {
				t.Errorf("IsValue(%v) among %d pairs = true", v, count)
			}
		}
	}
	if impl.IsValue(pair(0), nil) || impl.IsValue(pair(0), []impl.Pair{}) || !impl.IsValue(void(), nil) || !impl.IsValue(lambdaValue(2000), []impl.Pair{}) {
		t.Error("IsValue without pairs")
	}
}

func TestPairs(t *testing.T) {
	if !impl.ArePairs(nil) || !impl.ArePairs([]impl.Pair{}) || !impl.ArePairs([]impl.Pair{{}}) {
		t.Error("ArePairs without pairs or of a pair of void = false")
	}
	for _, count := range []int{1, 2, 3, 1999, 2000, 2001, 2002, 100000} {
		wanted := count <= 2000
		for _, pairs := range [][]impl.Pair{chain(count), doubling(count), make([]impl.Pair, count)} {
			if got := impl.ArePairs(pairs); got != wanted {
				t.Errorf("ArePairs of %d pairs = %v", count, got)
			}
			if got := impl.IsValue(void(), pairs); got != wanted {
				t.Errorf("IsValue of void with %d pairs = %v", count, got)
			}
			if got := impl.IsValue(pair(0), pairs); got != wanted {
				t.Errorf("IsValue of the first one of %d pairs = %v", count, got)
			}
		}
	}
}

// Each place of a pair has each value, and a pair has each index.
func TestPairsOfValues(t *testing.T) {
	check := func(pairs []impl.Pair, at int) {
		t.Helper()
		wanted := areGoodPairs(pairs)
		if got := impl.ArePairs(pairs); got != wanted {
			t.Errorf("ArePairs with %v at %d = %v", pairs[at], at, got)
		}
		if got := impl.IsValue(empty(), pairs); got != wanted {
			t.Errorf("IsValue of () with %v at %d = %v", pairs[at], at, got)
		}
	}
	good := 0
	for _, at := range []int{0, 1, 2, 4} {
		values := slices.Concat(goodValues(max(at, 1)), badValues(at), badValues(5))
		for n := range 8 {
			values = append(values, pair(n-1))
		}
		for _, v := range values {
			pairs := chain(5)
			pairs[at].Head = v
			check(pairs, at)
			pairs = chain(5)
			pairs[at].Tail = v
			check(pairs, at)
			if areGoodPairs(pairs) {
				good++
			}
		}
	}
	if good < 100 {
		t.Errorf("only %d pairs are good", good)
	}
}

func checkValueOf(t *testing.T, d impl.Datum, pairs []impl.Pair) {
	t.Helper()
	v, all, ok := impl.ValueOf(d, pairs)
	wantedValue, wantedPairs := void(), pairs
	wanted := fits(d, 20) && impl.CountNodes(d) <= 600 && areGoodPairs(pairs)
	if wanted {
		wantedValue, wantedPairs = describedValue(d, pairs[:len(pairs):len(pairs)])
		if len(wantedPairs) > 2000 {
			wanted, wantedValue, wantedPairs = false, void(), pairs
		}
	}
	if ok != wanted || v != wantedValue || !samePairs(all, wantedPairs) {
		t.Errorf("ValueOf(%.200s) with %d pairs = %v, %d pairs, %v, not %v, %d pairs, %v", show(d), len(pairs), v, len(all), ok, wantedValue, len(wantedPairs), wanted)
	}
}

func TestValueOf(t *testing.T) {
	for _, s := range []struct {
		source string
		wanted impl.Value
		pairs  []impl.Pair
	}{
		{"()", empty(), nil}, {"a", name("a"), nil}, {"-12", num(-12), nil}, {"#t", truth(1), nil}, {"#f", truth(0), nil}, {`"a b"`, quoted("a b"), nil}, {`""`, quoted(""), nil}, {"+", name("+"), nil},
		{"(7)", pair(0), []impl.Pair{{Head: num(7), Tail: empty()}}},
		{"(())", pair(0), []impl.Pair{{Head: empty(), Tail: empty()}}},
		{"(1 2)", pair(1), []impl.Pair{{Head: num(2), Tail: empty()}, {Head: num(1), Tail: pair(0)}}},
		{"((1) 2)", pair(2), []impl.Pair{{Head: num(2), Tail: empty()}, {Head: num(1), Tail: empty()}, {Head: pair(1), Tail: pair(0)}}},
		{"(1 (2))", pair(2), []impl.Pair{{Head: num(2), Tail: empty()}, {Head: pair(0), Tail: empty()}, {Head: num(1), Tail: pair(1)}}},
		{"((a) (b))", pair(3), []impl.Pair{{Head: name("b"), Tail: empty()}, {Head: pair(0), Tail: empty()}, {Head: name("a"), Tail: empty()}, {Head: pair(2), Tail: pair(1)}}},
	} {
		v, pairs, ok := impl.ValueOf(mustParseOne(t, s.source), nil)
		if !ok || v != s.wanted || !samePairs(pairs, s.pairs) {
			t.Errorf("ValueOf(%s) = %v, %v, %v", s.source, v, pairs, ok)
		}
		before := chain(3)
		v, pairs, ok = impl.ValueOf(mustParseOne(t, s.source), before)
		if wanted, all := describedValue(mustParseOne(t, s.source), chain(3)); !ok || v != wanted || !samePairs(pairs, all) || len(all) != len(s.pairs)+3 {
			t.Errorf("ValueOf(%s) behind 3 pairs = %v, %v, %v", s.source, v, pairs, ok)
		}
	}
}

func TestValueOfAnyData(t *testing.T) {
	g := generator(11)
	for range 3000 {
		for _, d := range []impl.Datum{g.datum(3), g.strange(2), g.strange(0)} {
			checkValueOf(t, d, nil)
			checkValueOf(t, d, chain(g.below(9)))
			checkValueOf(t, d, chain(1990+g.below(12)))
			checkValueOf(t, d, []impl.Pair{{Head: g.value(2), Tail: g.value(1)}})
		}
	}
	for _, d := range []impl.Datum{nested(20), nested(21), list(atoms(599)...), list(atoms(600)...), nested(deepNesting), symbol("A"), {Kind: 5}, number(impl.MaxNumber + 1)} {
		for _, pairs := range [][]impl.Pair{nil, chain(1), chain(2000), chain(2001), {{Head: pair(0)}}} {
			checkValueOf(t, d, pairs)
		}
	}
}

// The pairs are as many as there may be, or one more.
func TestValueOfMostPairs(t *testing.T) {
	for _, items := range []int{0, 1, 2, 20, 599} {
		for _, more := range []int{-2, -1, 0, 1, 2} {
			if count := 2000 - items + more; count <= 2000 {
				checkValueOf(t, list(atoms(items)...), chain(count))
			}
		}
	}
	for depth := range 5 {
		for more := range 5 {
			checkValueOf(t, nested(depth+1), chain(2000-more))
			checkValueOf(t, list(nested(depth+1), nested(2)), chain(2000-depth-more))
		}
	}
	if _, _, ok := impl.ValueOf(list(number(1)), chain(1999)); !ok {
		t.Error("there is no room for the last pair")
	}
	if _, _, ok := impl.ValueOf(number(1), chain(2000)); !ok {
		t.Error("a number needs room for a pair")
	}
}

// value returns any value, often a good one where there are this many pairs.
func (g *generator) value(pairs int) impl.Value {
	switch g.below(4) {
	case 0:
		if bad := badValues(pairs); g.below(6) == 0 {
			return bad[g.below(len(bad))]
		}
	case 1:
		if pairs > 0 {
			return pair(g.below(pairs))
		}
	}
	good := goodValues(max(pairs, 1))
	return good[g.below(len(good))]
}

func TestFormatValue(t *testing.T) {
	pairs := []impl.Pair{
		{Head: num(1), Tail: empty()}, {Head: num(2), Tail: num(3)}, {Head: name("a"), Tail: pair(0)}, {Head: pair(0), Tail: pair(1)}, {Head: empty(), Tail: void()},
		{Head: pair(2), Tail: pair(2)}, {Head: pair(5), Tail: name("b")}, {Head: void(), Tail: builtIn(0)}, {Head: quoted("x y"), Tail: pair(4)}, {Head: lambdaValue(2), Tail: pair(7)}, {Head: truth(0), Tail: truth(1)},
	}
	for _, s := range []struct {
		v      impl.Value
		wanted string
	}{
		{void(), "#void"}, {empty(), "()"}, {truth(1), "#t"}, {truth(0), "#f"}, {num(0), "0"}, {num(-12), "-12"}, {num(leastNumber), "-999999999"}, {name("a"), "a"}, {name("..."), "..."}, {quoted(""), `""`}, {quoted("a (b"), `"a (b"`},
		{builtIn(0), "#procedure"}, {builtIn(13), "#procedure"}, {lambdaValue(0), "#procedure"}, {lambdaValue(2000), "#procedure"}, {rest(0), "#procedure"}, {rest(2000), "#procedure"},
		{pair(0), "(1)"}, {pair(1), "(2 . 3)"}, {pair(2), "(a 1)"}, {pair(3), "((1) 2 . 3)"}, {pair(4), "(() . #void)"}, {pair(5), "((a 1) a 1)"}, {pair(6), "(((a 1) a 1) . b)"}, {pair(7), "(#void . #procedure)"},
		{pair(8), `("x y" () . #void)`}, {pair(9), "(#procedure #void . #procedure)"}, {pair(10), "(#f . #t)"},
	} {
		if got := impl.FormatValue(s.v, pairs); got != s.wanted || describedValueText(s.v, pairs) != s.wanted {
			t.Errorf("FormatValue(%v) = %q, not %q", s.v, got, s.wanted)
		}
	}
	for _, v := range badValues(len(pairs)) {
		if got := impl.FormatValue(v, pairs); got != "" {
			t.Errorf("FormatValue(%v) = %q", v, got)
		}
	}
	for _, bad := range [][]impl.Pair{chain(2001), {{Head: pair(0)}}, {{}, {Tail: truth(2)}}} {
		if got := impl.FormatValue(void(), bad); got != "" {
			t.Errorf("FormatValue with bad pairs = %q", got)
		}
	}
}

// Each text of up to a few bytes more than there may be is cut at the same
// place, whatever stands there.
func TestLongTexts(t *testing.T) {
	long := 0
	check := func(v impl.Value, pairs []impl.Pair) {
		t.Helper()
		got := impl.FormatValue(v, pairs)
		if wanted := describedValueText(v, pairs); got != wanted || len(got) > 120 {
			t.Errorf("FormatValue is %q, not %q", got, wanted)
		}
		if len(got) == 120 {
			long++
		}
	}
	for shift := range 40 {
		for _, head := range []impl.Value{num(-123456), name("abcdefghijklmnop"), quoted("a string of 20 bytes"), lambdaValue(1), empty(), void()} {
			for _, last := range []impl.Value{empty(), num(12), quoted("the end"), name(strings.Repeat("z", 16)), void()} {
				var pairs []impl.Pair
				tail := last
				for range 3 + 90/len(impl.FormatValue(head, nil)) {
					pairs = append(pairs, impl.Pair{Head: head, Tail: tail})
					tail = pair(len(pairs) - 1)
				}
				pairs = append(pairs, impl.Pair{Head: quoted(strings.Repeat("+", shift/2)), Tail: tail}, impl.Pair{Head: name(strings.Repeat("-", 1+shift%16)), Tail: pair(len(pairs))})
				check(pair(len(pairs)-1), pairs)
				// The same behind parentheses, and before others.
				for range shift % 5 {
					pairs = append(pairs, impl.Pair{Head: pair(len(pairs) - 1), Tail: empty()})
				}
				pairs = append(pairs, impl.Pair{Head: pair(len(pairs) - 1), Tail: num(shift)})
				check(pair(len(pairs)-1), pairs)
			}
		}
	}
	if long < 500 {
		t.Errorf("only %d texts are long", long)
	}
}

// The text of exactly as many bytes as there may be, and of one less and more.
func TestMostText(t *testing.T) {
	for length := 118; length <= 123; length++ {
		all := "(" + strings.Repeat("abcdefg ", 14) + strings.Repeat("h", length-114) + ")"
		if len(all) != length {
			t.Fatalf("the text has %d bytes", len(all))
		}
		v, pairs, ok := impl.ValueOf(mustParseOne(t, all), nil)
		if got := impl.FormatValue(v, pairs); !ok || got != all[:min(length, 120)] {
			t.Errorf("FormatValue is %q, not the start of %q", got, all)
		}
	}
}

// Pairs that share others have texts that cannot be written in full.
func TestSharedTexts(t *testing.T) {
	for _, count := range []int{1, 2, 3, 4, 5, 6, 7, 60, 119, 120, 121, 2000} {
		pairs := doubling(count)
		for _, v := range []impl.Value{pair(count - 1), pair(count / 2)} {
			if got, wanted := impl.FormatValue(v, pairs), describedValueText(v, pairs); got != wanted {
				t.Errorf("FormatValue of %d pairs is %q, not %q", count, got, wanted)
			}
		}
	}
	if got := impl.FormatValue(pair(2), doubling(3)); got != "(((()) ()) (()) ())" {
		t.Errorf("FormatValue is %q", got)
	}
	if got := impl.FormatValue(pair(1999), doubling(2000)); got != strings.Repeat("(", 120) {
		t.Errorf("FormatValue is %q", got)
	}
}

func TestFormatAnyValues(t *testing.T) {
	g := generator(13)
	texts := 0
	for range 3000 {
		var pairs []impl.Pair
		for i := range 1 + g.below(30) {
			pairs = append(pairs, impl.Pair{Head: g.value(i), Tail: g.value(i)})
		}
		v := g.value(len(pairs))
		wanted := ""
		if isGoodAmong(v, pairs) {
			wanted = describedValueText(v, pairs)
			texts++
		}
		if got := impl.FormatValue(v, pairs); got != wanted {
			t.Errorf("FormatValue(%v, %v) = %q, not %q", v, pairs, got, wanted)
		}
		if got := impl.IsValue(v, pairs); got != (wanted != "") {
			t.Errorf("IsValue(%v, %v) = %v", v, pairs, got)
		}
	}
	if texts < 300 {
		t.Errorf("only %d values have a text", texts)
	}
}
