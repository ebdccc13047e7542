package tests

import (
	"slices"
	"strings"
	"testing"

	"loop.example/g03220/impl"
)

// coreTexts has terms of each kind by their fields, and their texts.
var coreTexts = []struct {
	c    impl.Core
	text string
}{
	{constant(symbol("d")), "(quote d)"}, {constant(list()), "(quote ())"}, {constant(number(-5)), "(quote -5)"}, {constant(boolean(1)), "(quote #t)"}, {constant(text("a b")), "(quote \"a b\")"}, {constant(list(symbol("a"), list(number(1)))), "(quote (a (1)))"},
	{constant(symbol("v1")), "(quote v1)"}, {constant(symbol("quote")), "(quote quote)"}, {constant(list(symbol("quote"), symbol("x"))), "(quote (quote x))"}, {constant(list(symbol("lambda"), list(symbol("v1")), symbol("v1"))), "(quote (lambda (v1) v1))"}, {constant(list(symbol("if"))), "(quote (if))"},
	{useOf(0), "v0"}, {useOf(7), "v7"}, {useOf(10), "v10"}, {useOf(99999), "v99999"}, {primitive(0), "+"}, {primitive(2), "*"}, {primitive(8), "null?"}, {primitive(13), "display"},
	{assignment(1, useOf(2)), "(set! v1 v2)"}, {assignment(0, assignment(99999, primitive(1))), "(set! v0 (set! v99999 -))"},
	{binder(impl.CoreLambda, nil, useOf(3)), "(lambda () v3)"}, {binder(impl.CoreLambda, []int{1}, useOf(1)), "(lambda (v1) v1)"}, {binder(impl.CoreLambda, []int{2, 0}, useOf(1)), "(lambda (v2 v0) v1)"}, {binder(impl.CoreLambda, from(1, 8), useOf(8)), "(lambda (v1 v2 v3 v4 v5 v6 v7 v8) v8)"},
	{node(impl.CoreApply, useOf(1)), "(v1)"}, {node(impl.CoreApply, primitive(5)), "(cons)"}, {node(impl.CoreApply, useOf(1), useOf(2), useOf(3)), "(v1 v2 v3)"}, {node(impl.CoreApply, node(impl.CoreApply, useOf(1), useOf(2))), "((v1 v2))"}, {node(impl.CoreApply, constant(symbol("quote")), constant(number(1))), "((quote quote) (quote 1))"},
	{node(impl.CoreApply, binder(impl.CoreLambda, []int{4}, useOf(4)), primitive(4)), "((lambda (v4) v4) <)"}, {node(impl.CoreApply, slices.Repeat([]impl.Core{useOf(5)}, 9)...), "(v5 v5 v5 v5 v5 v5 v5 v5 v5)"},
	{node(impl.CoreIf, useOf(1), useOf(2), useOf(3)), "(if v1 v2 v3)"}, {node(impl.CoreSequence, useOf(1), useOf(2)), "(begin v1 v2)"}, {node(impl.CoreSequence, useOf(1), node(impl.CoreReset, node(impl.CoreSequence, useOf(2), useOf(1))), useOf(3)), "(begin v1 (reset (begin v2 v1)) v3)"},
	{binder(impl.CoreLocal, []int{1}, useOf(1)), "(local (v1) v1)"}, {binder(impl.CoreLocal, []int{1, 2}, assignment(2, useOf(1)), useOf(2), useOf(0)), "(local (v1 v2) (set! v2 v1) v2 v0)"},
	{node(impl.CoreReset, useOf(1)), "(reset v1)"}, {binder(impl.CoreShift, []int{1}, useOf(1)), "(shift v1 v1)"}, {binder(impl.CoreShift, []int{7}, node(impl.CoreApply, useOf(7), constant(number(0)))), "(shift v7 (v7 (quote 0)))"},
}

func TestTextsOfCores(t *testing.T) {
	for _, c := range coreTexts {
		d := mustParseOne(t, c.text)
		if got := impl.UnparseCore(c.c); !sameDatum(got, d) {
			t.Errorf("UnparseCore(%s) = %s, want %s", showCore(c.c), impl.FormatDatum(got), c.text)
		}
		if got := impl.FormatCore(c.c); got != c.text {
			t.Errorf("FormatCore(%s) = %s, want %s", showCore(c.c), got, c.text)
		}
		if got, ok := impl.ReadCore(d); !ok || !sameCore(got, c.c) {
			t.Errorf("ReadCore(%s) = %s, %v", c.text, showCore(got), ok)
		}
		if got, ok := impl.ReadCore(withEmptyItems(d)); !ok || !sameCore(got, c.c) {
			t.Errorf("ReadCore(%s) with empty slices = %s, %v", c.text, showCore(got), ok)
		}
	}
	for i, name := range primitiveWords {
		if impl.FormatCore(primitive(i)) != name {
			t.Errorf("the primitive %d is written as %s", i, impl.FormatCore(primitive(i)))
		}
		if got, ok := impl.ReadCore(symbol(name)); !ok || !sameCore(got, primitive(i)) {
			t.Errorf("ReadCore(%s) = %s, %v", name, showCore(got), ok)
		}
	}
}

func withEmptyItems(d impl.Datum) impl.Datum {
	items := []impl.Datum{}
	for _, item := range d.Items {
		items = append(items, withEmptyItems(item))
	}
	d.Items = items
	return d
}

func TestTextsOfInvalidCores(t *testing.T) {
	for _, c := range append(badCores(t), branching(61), branching(301), constant(branchingDatum(61)), within(3, branching(50))) {
		if got := impl.UnparseCore(c); !sameDatum(got, impl.Datum{}) {
			t.Errorf("UnparseCore(%s) = %s, want the zero value", showCore(c), show(got))
		}
		if got := impl.FormatCore(c); got != "" {
			t.Errorf("FormatCore(%s) = %.100s, want none", showCore(c), got)
		}
	}
}

// checkText compares with a second description of the datum and of its text.
func checkText(t *testing.T, c impl.Core) {
	t.Helper()
	want := describedDatum(c)
	d := impl.UnparseCore(c)
	if !sameDatum(d, want) {
		t.Errorf("UnparseCore(%s) = %.300s", showCore(c), describedText(d))
		return
	}
	got := impl.FormatCore(c)
	if got != describedText(want) {
		t.Errorf("FormatCore(%s) = %.300s", showCore(c), got)
	}
	if impl.IsDatum(d) && got != impl.FormatDatum(d) {
		t.Errorf("FormatCore(%s) is not the text of its datum, %.300s", showCore(c), impl.FormatDatum(d))
	}
	if back, ok := impl.ReadCore(d); !ok || !sameCore(back, c) {
		t.Errorf("%.300s is read as %s, %v", got, showCore(back), ok)
	}
}

func TestCoresAreReadBack(t *testing.T) {
	g := generator(151)
	for range 8000 {
		checkText(t, g.core(1+g.below(4)))
		if t.Failed() {
			return
		}
	}
	for _, c := range smallCores(3, 1, 2) {
		if isGoodAlone(c) {
			checkText(t, c)
		}
	}
}

// The data of these are larger or deeper than valid data.
func TestLargeCoresAreReadBack(t *testing.T) {
	for _, g := range goodCores(t) {
		checkText(t, g.c)
	}
	wide := node(impl.CoreApply, constants(9)...)
	deep := within(148, constant(nested(20)))
	many := binder(impl.CoreLocal, from(40000, 60), slices.Repeat([]impl.Core{constant(list(slices.Repeat([]impl.Datum{text(strings.Repeat("x", 20))}, 599)...))}, 60)...)
	large := within(146, many)
	for _, c := range []impl.Core{sized(300), sized(600), sized(601), sized(3000), within(18, useOf(1)), within(19, useOf(1)), within(20, useOf(1)), within(149, wide.Kids[0]), deep, large, node(impl.CoreIf, deep, large, wide)} {
		checkText(t, c)
	}
	d := impl.UnparseCore(sized(3000))
	if impl.IsDatum(d) || impl.CountNodes(d) < 6000 {
		t.Errorf("the datum of 3000 nodes has %d", impl.CountNodes(d))
	}
	if d := impl.UnparseCore(deep); impl.IsDatum(d) || impl.DepthOf(d) != 169 {
		t.Errorf("the datum of a deep term has the depth %d", impl.DepthOf(d))
	}
}

func TestReadCoreRefuses(t *testing.T) {
	bad := []string{
		"()", "1", "#t", "#f", "\"a\"", "\"v1\"", "\"+\"", "x", "v", "v01", "v00", "v-1", "v-0", "v+1", "v1a", "v1.", "vv1", "v100000", "v999999999", "v1000000000", "va", "vx1", "-1", "v_", "w1", "quote", "lambda", "if", "set!", "begin", "reset", "shift", "define", "define-syntax", "let-syntax", "syntax-rules", "local", "let", "else", "...", "++", "list", "caar",
		"(quote)", "(quote a b)", "((quote a) . 1)", "(if v1 v2)", "(if v1 v2 v3 v4)", "(if)", "(if v1)", "(if 1 2 3)", "(if (quote 1) v1 2)", "(begin)", "(begin v1)", "(begin (begin v1 v2) v3)", "(begin v1 (begin v2 v3))", "(begin v1 1)",
		"(set!)", "(set! v1)", "(set! v1 v2 v3)", "(set! + v1)", "(set! car v1)", "(set! 1 v1)", "(set! (v1) v1)", "(set! quote v1)", "(set! v01 v1)", "(set! v-1 v1)", "(set! v100000 v1)", "(set! \"v1\" v1)", "(set! () v1)", "(set! x v1)", "(set! v1 1)",
		"(lambda)", "(lambda v1)", "(lambda (v1))", "(lambda v1 v1)", "(lambda () v1 v2)", "(lambda (v1) v1 v1)", "(lambda (v1 v1) v1)", "(lambda (v1) (lambda (v1) v1))", "(lambda (+) v1)", "(lambda (lambda) v1)", "(lambda (x) v1)", "(lambda (v01) v1)", "(lambda (v100000) v1)", "(lambda ((v1)) v1)", "(lambda (v1 1) v1)", "(lambda (\"v1\") v1)", "(lambda (()) v1)", "(lambda \"v1\" v1)", "(lambda 1 v1)",
		"(lambda (v1 v2 v3 v4 v5 v6 v7 v8 v9) v1)", "(lambda (v1) x)", "((lambda (v1) v1) v1)", "(v1 (lambda (v1) v1))", "(v0 (lambda (v0) v0))", "(lambda (v0 v0) v1)", "(lambda (v0 x) v1)",
		"(local)", "(local (v1))", "(local () v1)", "(local v1 v1)", "(local (v1 v1) v1)", "(local (x) v1)", "(local (v1) 1)", "(local (v1) v1 x)", "(reset)", "(reset v1 v2)", "(reset 1)", "(shift)", "(shift v1)", "(shift v1 v1 v1)", "(shift (v1) v1)", "(shift + v1)", "(shift x v1)", "(shift v01 v1)", "(shift () v1)", "(shift 1 v1)", "(shift v1 (shift v1 v1))",
		"(v1 v2 v3 v4 v5 v6 v7 v8 v9 v10)", "(1)", "(v1 1)", "(())", "(v1 ())", "(x v1)", "(+ 1 2)", "(\"quote\" v1)", "(\"if\" v1 v2 v3)", "(v1 quote)", "(v1 if)", "(v1 begin v2)", "(lambda (v1) if)", "(if if if if)", "((quote) v1)", "((if) v1)", "((quote 1 2))", "((begin) v1)", "(define v1 v2)", "(define-syntax v1 v2)", "(let-syntax () v1)", "(syntax-rules ())", "(local-x (v1) v1)",
	}
	v := symbol("v1")
	for _, source := range bad {
		d := mustParseOne(t, source)
		checkNoCore(t, source, d)
		checkNoCore(t, "if with "+source, list(symbol("if"), v, d, v))
		checkNoCore(t, "lambda with "+source, list(symbol("lambda"), list(), d))
	}
}

func checkNoCore(t *testing.T, label string, d impl.Datum) {
	t.Helper()
	if c, ok := impl.ReadCore(d); ok || !isZeroCore(c) {
		t.Errorf("ReadCore(%s) = %s, %v, want the zero value and false", label, showCore(c), ok)
	}
}

// Data that look like those of terms, with a field that no valid datum has.
func TestReadCoreOfInvalidData(t *testing.T) {
	strange := func(d impl.Datum) []impl.Datum {
		numbered, named, crowded := d, d, d
		numbered.Number = 1
		named.Text += "a"
		crowded.Items = append(slices.Clone(d.Items), list())
		result := []impl.Datum{numbered, named}
		if d.Kind != impl.DatumList {
			result = append(result, crowded)
		}
		for _, kind := range []int{0, 1, 2, 3, 4, 5, -1, leastInt, greatestInt} {
			if kind != d.Kind {
				other := d
				other.Kind = kind
				result = append(result, other)
			}
		}
		return result
	}
	var change func(d impl.Datum, put func(impl.Datum) impl.Datum)
	change = func(d impl.Datum, put func(impl.Datum) impl.Datum) {
		for _, other := range strange(d) {
			whole := put(other)
			want, ok := describedCore(whole)
			if got, fine := impl.ReadCore(whole); fine != ok || !sameCore(got, want) {
				t.Errorf("ReadCore(%s) = %s, %v", show(whole), showCore(got), fine)
			}
		}
		for i, item := range d.Items {
			change(item, func(other impl.Datum) impl.Datum {
				items := slices.Clone(d.Items)
				items[i] = other
				within := d
				within.Items = items
				return put(within)
			})
		}
	}
	for _, c := range coreTexts {
		change(mustParseOne(t, c.text), func(d impl.Datum) impl.Datum { return d })
	}
	quote := symbol("quote")
	for label, d := range map[string]impl.Datum{
		"the zero value with a number": {Number: 1}, "a kind that is none": {Kind: 9}, "a list with a text": {Text: "v1"}, "a list that is named +": {Text: "+"}, "a symbol with items": {Kind: impl.DatumSymbol, Text: "v1", Items: atoms(1)},
		"a number that is named v1": {Kind: impl.DatumNumber, Text: "v1"}, "a string": text("v1"), "the symbol 5": symbol("5"), "the empty symbol": symbol(""), "a long symbol": symbol("v" + strings.Repeat("0", 100000) + "1"), "a symbol with a newline": symbol("v1\n"),
		"a datum that is not valid": list(quote, symbol("A")), "a kind in a constant": list(quote, impl.Datum{Kind: 9}), "a large constant": list(quote, list(atoms(600)...)), "a deep constant": list(quote, nested(21)), "a huge constant": list(quote, list(atoms(1000000)...)), "a constant of greatest depth": list(quote, nested(deepNesting)),
		"an operator with a text": list(impl.Datum{Text: "quote"}, number(1)), "an operator with items": list(impl.Datum{Kind: impl.DatumSymbol, Text: "reset", Items: atoms(1)}, symbol("v1")),
	} {
		checkNoCore(t, label, d)
	}
}

func TestReadCoreUpToTheLimits(t *testing.T) {
	v := symbol("v1")
	resets := func(depth int, d impl.Datum) impl.Datum {
		for range depth {
			d = list(symbol("reset"), d)
		}
		return d
	}
	items := func(count int, start ...impl.Datum) impl.Datum {
		return list(append(start, slices.Repeat([]impl.Datum{v}, count)...)...)
	}
	begin, local, lambda := symbol("begin"), symbol("local"), symbol("lambda")
	cases := []struct {
		label string
		d     impl.Datum
		ok    bool
	}{
		{"depth 150", resets(149, v), true}, {"depth 151", resets(150, v), false}, {"depth 65536", resets(deepNesting-1, v), false}, {"3000 nodes", describedDatum(sized(3000)), true}, {"3001 nodes", describedDatum(sized(3001)), false}, {"3000 nodes in one", resets(1, describedDatum(sized(3000))), false},
		{"60 in order", items(60, begin), true}, {"61 in order", items(61, begin), false}, {"2 in order", items(2, begin), true}, {"1 in order", items(1, begin), false}, {"1000000 in order", items(1000000, begin), false}, {"8 arguments", items(9), true}, {"9 arguments", items(10), false}, {"1000000 arguments", items(1000000), false},
		{"60 variables", list(local, list(variableSymbols(from(1, 60))...), v), true}, {"61 variables", list(local, list(variableSymbols(from(1, 61))...), v), false}, {"60 kids", items(60, local, list(symbol("v2"))), true}, {"61 kids", items(61, local, list(symbol("v2"))), false},
		{"8 parameters", list(lambda, list(variableSymbols(from(1, 8))...), v), true}, {"9 parameters", list(lambda, list(variableSymbols(from(1, 9))...), v), false}, {"1000000 parameters", list(lambda, items(1000000), v), false}, {"600 nodes of a constant", list(symbol("quote"), list(atoms(599)...)), true}, {"depth 20 of a constant", resets(148, list(symbol("quote"), nested(20))), true},
		{"2^10 nodes", branchingDatum(11), true}, {"2^60 nodes", branchingDatum(61), false}, {"2^60 nodes in order", branchingDatum(61, begin), false}, {"2^140 nodes", branchingDatum(141), false}, {"2^300 nodes", branchingDatum(301), false}, {"2^60 nodes of a constant", list(symbol("quote"), branchingDatum(61)), false}, {"2^60 nodes of parameters", list(lambda, branchingDatum(61), v), false},
	}
	for _, c := range cases {
		got, ok := impl.ReadCore(c.d)
		if ok != c.ok || !ok && !isZeroCore(got) {
			t.Errorf("ReadCore of %s = %s, %v", c.label, showCore(got), ok)
		}
		if ok && !sameDatum(describedDatum(got), c.d) {
			t.Errorf("ReadCore of %s = %s, which has another datum", c.label, showCore(got))
		}
	}
}

// nearDatum changes a node of the datum of a term, so that it is often that of
// another term, or of none.
func (g *generator) nearDatum(d impl.Datum) impl.Datum {
	d = cloneWithSpare([]impl.Datum{d})[0]
	nodes := dataOf(&d)
	at, other := nodes[g.below(len(nodes))], cloneWithSpare([]impl.Datum{*nodes[g.below(len(nodes))]})[0]
	words := []string{"quote", "set!", "lambda", "if", "begin", "local", "reset", "shift", "v1", "v2", "v0", "v01", "v-1", "v99999", "v100000", "+", "car", "x", "define", "v", "", "A"}
	switch g.below(10) {
	case 0, 1:
		*at = symbol(words[g.below(len(words))])
	case 2:
		at.Items = append(at.Items, other)
	case 3:
		at.Items = append([]impl.Datum{symbol(words[g.below(len(words))])}, at.Items...)
	case 4:
		at.Items = at.Items[:g.below(len(at.Items)+1)]
	case 5:
		at.Items = at.Items[g.below(len(at.Items)+1):]
	case 6, 7:
		*at = other
	case 8:
		*at = g.strange(1)
	case 9:
		*at = list(symbol([]string{"quote", "reset", "x"}[g.below(3)]), *at)
	}
	return d
}

func dataOf(d *impl.Datum) []*impl.Datum {
	nodes := []*impl.Datum{d}
	for i := range d.Items {
		nodes = append(nodes, dataOf(&d.Items[i])...)
	}
	return nodes
}

// checkRead compares with a second reader.
func checkRead(t *testing.T, d impl.Datum) bool {
	t.Helper()
	want, ok := describedCore(d)
	got, fine := impl.ReadCore(d)
	if fine != ok || !sameCore(got, want) {
		t.Errorf("ReadCore(%.300s) = %s, %v, want %s, %v", describedText(d), showCore(got), fine, showCore(want), ok)
	}
	if fine && (!sameDatum(impl.UnparseCore(got), d) || impl.FormatCore(got) != describedText(d)) {
		t.Errorf("%.300s is written again as %s", describedText(d), impl.FormatCore(got))
	}
	return ok
}

func TestReadCoreOfAnyDatum(t *testing.T) {
	g := generator(157)
	near, others := 0, 0
	for range 10000 {
		d := describedDatum(g.core(1 + g.below(3)))
		if checkRead(t, g.nearDatum(d)) {
			near++
		}
		for _, other := range []impl.Datum{g.codeDatum(1 + g.below(3)), g.datum(2), g.strange(2), g.nearDatum(g.nearDatum(d))} {
			if checkRead(t, other) {
				others++
			}
		}
		if t.Failed() {
			return
		}
	}
	if near < 2000 || near > 8000 || others < 2000 || others > 38000 {
		t.Errorf("%d of 10000 and %d of 40000 data are terms", near, others)
	}
}

// codeDatum returns a datum of the words of terms, in any order.
func (g *generator) codeDatum(depth int) impl.Datum {
	if depth == 0 || g.below(4) == 0 {
		return symbol([]string{"v1", "v2", "v3", "v4", "+", "cons", "v01", "x"}[g.below(8)])
	}
	var items []impl.Datum
	switch word := []string{"quote", "set!", "lambda", "if", "begin", "local", "reset", "shift", ""}[g.below(9)]; word {
	case "":
	case "lambda", "local":
		items = append(items, symbol(word), list(slices.Repeat([]impl.Datum{symbol([]string{"v5", "v6", "v7", "+"}[g.below(4)])}, g.below(2))...))
	default:
		items = append(items, symbol(word))
	}
	for range 1 + g.below(3) {
		items = append(items, g.codeDatum(depth-1))
	}
	return list(items...)
}

// Every datum of few items over the words of terms.
func TestReadCoreOfEachSmallDatum(t *testing.T) {
	words := []impl.Datum{symbol("v1"), symbol("v2"), symbol("+"), symbol("x"), list(), list(symbol("v1")), list(symbol("v2"), symbol("v1")), number(1)}
	for _, name := range formWords {
		words = append(words, symbol(name))
	}
	found := 0
	var extend func(items []impl.Datum, left int)
	extend = func(items []impl.Datum, left int) {
		if checkRead(t, list(items...)) {
			found++
		}
		for _, word := range words {
			if left > 0 {
				extend(append(items[:len(items):len(items)], word), left-1)
			}
		}
	}
	extend(nil, 4)
	if found < 500 {
		t.Errorf("only %d data are terms", found)
	}
}
