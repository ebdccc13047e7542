package tests

import (
	"fmt"
	"regexp"
	"slices"
	"strconv"
	"strings"
	"testing"

	"loop.example/g03220/impl"
)

// kindsOfCores has what chapter 6 says of each kind, written apart from the
// program: the word of its datum, the last Number, and how many Params and Kids
// there may be.
var kindsOfCores = []struct {
	kind                                         int
	word                                         string
	last                                         int
	leastParams, mostParams, leastKids, mostKids int
}{
	{impl.CoreQuote, "quote", 0, 0, 0, 0, 0}, {impl.CoreVariable, "", 99999, 0, 0, 0, 0}, {impl.CorePrimitive, "", 13, 0, 0, 0, 0}, {impl.CoreAssign, "set!", 99999, 0, 0, 1, 1},
	{impl.CoreLambda, "lambda", 0, 0, 8, 1, 1}, {impl.CoreApply, "", 0, 0, 0, 1, 9}, {impl.CoreIf, "if", 0, 0, 0, 3, 3}, {impl.CoreSequence, "begin", 0, 0, 0, 2, 60},
	{impl.CoreLocal, "local", 0, 1, 60, 1, 60}, {impl.CoreReset, "reset", 0, 0, 0, 1, 1}, {impl.CoreShift, "shift", 0, 1, 1, 1, 1},
}

var noCoreKinds = []int{0, -1, -2, -5, -8, -11, 12, 13, 16, 24, 257, leastInt, leastInt + 1, greatestInt, 1 << 32, 1<<32 + 2}

func node(kind int, kids ...impl.Core) impl.Core { return impl.Core{Kind: kind, Kids: kids} }

func binder(kind int, params []int, kids ...impl.Core) impl.Core {
	return impl.Core{Kind: kind, Params: params, Kids: kids}
}

func constant(d impl.Datum) impl.Core { return impl.Core{Kind: impl.CoreQuote, Datum: d} }

func useOf(n int) impl.Core { return impl.Core{Kind: impl.CoreVariable, Number: n} }

func assignment(n int, kids ...impl.Core) impl.Core {
	return impl.Core{Kind: impl.CoreAssign, Number: n, Kids: kids}
}

func primitive(n int) impl.Core { return impl.Core{Kind: impl.CorePrimitive, Number: n} }

// from returns count numbers from first on.
func from(first, count int) []int {
	numbers := make([]int, count)
	for i := range numbers {
		numbers[i] = first + i
	}
	return numbers
}

// constants returns this number of terms of one node.
func constants(n int) []impl.Core {
	result := make([]impl.Core, n)
	for i := range result {
		result[i] = constant(number(i))
	}
	return result
}

// within returns c within this number of resets.
func within(resets int, c impl.Core) impl.Core {
	for range resets {
		c = node(impl.CoreReset, c)
	}
	return c
}

// branching returns a term of this depth in which each node but the last ones
// is the operator and the argument of the node around it; its parts share their
// memory, so that it may have more nodes than anything can visit.
func branching(depth int) impl.Core {
	c := constant(number(1))
	for range depth - 1 {
		c = node(impl.CoreApply, c, c)
	}
	return c
}

func branchingDatum(depth int, head ...impl.Datum) impl.Datum {
	d := list(symbol("quote"), number(1))
	for range depth - 1 {
		d = list(append(head[:len(head):len(head)], d, d)...)
	}
	return d
}

// sized returns a valid term of this many nodes, from 62 on: a sequence of
// sequences within locals.
func sized(nodes int) impl.Core {
	var kids []impl.Core
	left := nodes - 1
	for left > 61 {
		kids = append(kids, binder(impl.CoreLocal, []int{1000 + len(kids)}, constants(60)...))
		left -= 61
	}
	return node(impl.CoreSequence, append(kids, constants(left)...)...)
}

// term reads the text of a term, also of one that is not valid: it may have any
// number of items, several Params in a shift, and any numbers behind v. A
// number, boolean or string stands for its constant.
func term(t *testing.T, source string) impl.Core {
	t.Helper()
	return termOf(t, mustParseOne(t, source))
}

func terms(t *testing.T, source string) []impl.Core {
	t.Helper()
	return mapTerms(t, mustParse(t, source))
}

func mapTerms(t *testing.T, data []impl.Datum) []impl.Core {
	t.Helper()
	var result []impl.Core
	for _, d := range data {
		result = append(result, termOf(t, d))
	}
	return result
}

func termOf(t *testing.T, d impl.Datum) impl.Core {
	t.Helper()
	if d.Kind == impl.DatumSymbol {
		if i := slices.Index(primitiveWords, d.Text); i >= 0 {
			return primitive(i)
		}
		return useOf(numberOf(t, d))
	}
	if d.Kind != impl.DatumList {
		return constant(d)
	}
	c, rest := impl.Core{Kind: impl.CoreApply}, d.Items
	for _, k := range kindsOfCores {
		if k.word != "" && len(rest) > 0 && rest[0].Kind == impl.DatumSymbol && rest[0].Text == k.word {
			c.Kind, rest = k.kind, rest[1:]
		}
	}
	switch c.Kind {
	case impl.CoreQuote:
		return constant(rest[0])
	case impl.CoreAssign:
		c.Number, rest = numberOf(t, rest[0]), rest[1:]
	case impl.CoreLambda, impl.CoreLocal, impl.CoreShift:
		params := rest[0].Items
		if rest[0].Kind == impl.DatumSymbol {
			params = rest[:1]
		}
		for _, param := range params {
			c.Params = append(c.Params, numberOf(t, param))
		}
		rest = rest[1:]
	}
	c.Kids = mapTerms(t, rest)
	return c
}

func numberOf(t *testing.T, d impl.Datum) int {
	t.Helper()
	n, err := strconv.Atoi(strings.TrimPrefix(d.Text, "v"))
	if err != nil || !strings.HasPrefix(d.Text, "v") {
		t.Fatalf("%s is no variable", show(d))
	}
	return n
}

func numbersIn(t *testing.T, source string) []int {
	t.Helper()
	var result []int
	for _, word := range strings.Fields(source) {
		n, err := strconv.Atoi(word)
		if err != nil {
			t.Fatalf("%q are no numbers", source)
		}
		result = append(result, n)
	}
	return result
}

// showCore writes any term, also one that is not valid.
func showCore(c impl.Core) string { return showCoreTo(c, 4) }

func showCoreTo(c impl.Core, depth int) string {
	result := fmt.Sprintf("{%d %d %.60s %.80s", c.Kind, c.Number, fmt.Sprint(c.Params[:min(len(c.Params), 20)]), show(c.Datum))
	for i, kid := range c.Kids {
		if i == 5 || depth == 0 || len(result) > 600 {
			return result + " ..}"
		}
		result += " " + showCoreTo(kid, depth-1)
	}
	return result + "}"
}

// sameCore is written apart from EqualCores, which is under test.
func sameCore(a, b impl.Core) bool {
	if a.Kind != b.Kind || a.Number != b.Number || !sameInts(a.Params, b.Params) || !sameDatum(a.Datum, b.Datum) || len(a.Kids) != len(b.Kids) {
		return false
	}
	for i := range a.Kids {
		if !sameCore(a.Kids[i], b.Kids[i]) {
			return false
		}
	}
	return true
}

func isZeroCore(c impl.Core) bool { return sameCore(c, impl.Core{}) }

// eachTerm calls f with each node of c, and with the nodes around it, from the
// outermost one on.
func eachTerm(c impl.Core, f func(around []impl.Core, c impl.Core)) {
	var around []impl.Core
	var visit func(c impl.Core)
	visit = func(c impl.Core) {
		f(around, c)
		around = append(around, c)
		for _, kid := range c.Kids {
			visit(kid)
		}
		around = around[:len(around)-1]
	}
	visit(c)
}

func usesNumber(c impl.Core) bool {
	return c.Kind == impl.CoreVariable || c.Kind == impl.CoreAssign
}

func isBoundAround(around []impl.Core, n int) bool {
	return slices.ContainsFunc(around, func(c impl.Core) bool { return slices.Contains(c.Params, n) })
}

// describedFree, describedBound, describedBoxed, hasGoodFields and isGoodCore
// describe what chapter 6 says by the nodes around each node, apart from the
// program.
func describedFree(c impl.Core) []int {
	var free []int
	eachTerm(c, func(around []impl.Core, c impl.Core) {
		if usesNumber(c) && !isBoundAround(around, c.Number) && !slices.Contains(free, c.Number) {
			free = append(free, c.Number)
		}
	})
	return free
}

func describedBound(c impl.Core) []int {
	var bound []int
	eachTerm(c, func(_ []impl.Core, c impl.Core) { bound = append(bound, c.Params...) })
	return bound
}

func describedBoxed(c impl.Core) []int {
	var all, boxed []int
	eachTerm(c, func(_ []impl.Core, c impl.Core) {
		switch c.Kind {
		case impl.CoreAssign:
			all = append(all, c.Number)
		case impl.CoreLocal:
			all = append(all, c.Params...)
		}
	})
	for i, n := range all {
		if slices.Index(all, n) == i {
			boxed = append(boxed, n)
		}
	}
	return boxed
}

func hasGoodFields(c impl.Core) bool {
	for _, k := range kindsOfCores {
		if c.Kind != k.kind {
			continue
		}
		datum := sameDatum(c.Datum, impl.Datum{})
		if c.Kind == impl.CoreQuote {
			datum = fits(c.Datum, 20) && impl.CountNodes(c.Datum) <= 600
		}
		return datum && 0 <= c.Number && c.Number <= k.last && k.leastParams <= len(c.Params) && len(c.Params) <= k.mostParams && k.leastKids <= len(c.Kids) && len(c.Kids) <= k.mostKids
	}
	return false
}

func isGoodCore(c impl.Core, globals []int) bool {
	good, nodes := true, 0
	names := append([]int(nil), globals...)
	eachTerm(c, func(around []impl.Core, c impl.Core) {
		nodes++
		names = append(names, c.Params...)
		good = good && len(around) < 150 && hasGoodFields(c)
		if len(around) > 0 && c.Kind == impl.CoreSequence && around[len(around)-1].Kind == impl.CoreSequence {
			good = false
		}
		if usesNumber(c) && !isBoundAround(around, c.Number) && !slices.Contains(globals, c.Number) {
			good = false
		}
	})
	slices.Sort(names)
	for i, n := range names {
		good = good && 0 <= n && n <= 99999 && (i == 0 || names[i-1] < n)
	}
	return good && nodes <= 3000
}

func isGoodAlone(c impl.Core) bool { return isGoodCore(c, describedFree(c)) }

// addresses writes a term with, in place of each bound variable, how many
// binders are around its own one, and which of its Params it is.
func addresses(c impl.Core) string {
	var b strings.Builder
	eachTerm(c, func(around []impl.Core, c impl.Core) {
		fmt.Fprintf(&b, "%d of %d kids at %d binding %d %s", c.Kind, len(c.Kids), len(around), len(c.Params), impl.FormatDatum(c.Datum))
		if !usesNumber(c) {
			fmt.Fprintf(&b, " %d;", c.Number)
			return
		}
		for level := len(around) - 1; level >= 0; level-- {
			if i := slices.Index(around[level].Params, c.Number); i >= 0 {
				fmt.Fprintf(&b, " the variable %d of level %d;", i, level)
				return
			}
		}
		fmt.Fprintf(&b, " the free variable %d;", c.Number)
	})
	return b.String()
}

func variableSymbol(n int) impl.Datum { return symbol(fmt.Sprint("v", n)) }

func variableSymbols(numbers []int) []impl.Datum {
	var result []impl.Datum
	for _, n := range numbers {
		result = append(result, variableSymbol(n))
	}
	return result
}

// describedDatum is the datum of a term that is valid.
func describedDatum(c impl.Core) impl.Datum {
	kids := make([]impl.Datum, len(c.Kids))
	for i := range kids {
		kids[i] = describedDatum(c.Kids[i])
	}
	var start []impl.Datum
	switch c.Kind {
	case impl.CoreQuote:
		return list(symbol("quote"), c.Datum)
	case impl.CoreVariable:
		return variableSymbol(c.Number)
	case impl.CorePrimitive:
		return symbol(primitiveWords[c.Number])
	case impl.CoreAssign:
		start = []impl.Datum{symbol("set!"), variableSymbol(c.Number)}
	case impl.CoreShift:
		start = []impl.Datum{symbol("shift"), variableSymbol(c.Params[0])}
	case impl.CoreLambda:
		start = []impl.Datum{symbol("lambda"), list(variableSymbols(c.Params)...)}
	case impl.CoreLocal:
		start = []impl.Datum{symbol("local"), list(variableSymbols(c.Params)...)}
	case impl.CoreIf:
		start = []impl.Datum{symbol("if")}
	case impl.CoreSequence:
		start = []impl.Datum{symbol("begin")}
	case impl.CoreReset:
		start = []impl.Datum{symbol("reset")}
	}
	return list(append(start, kids...)...)
}

// describedText is the text of a datum of any number of valid nodes.
func describedText(d impl.Datum) string {
	if d.Kind != impl.DatumList {
		return impl.FormatDatum(d)
	}
	var texts []string
	for _, item := range d.Items {
		texts = append(texts, describedText(item))
	}
	return "(" + strings.Join(texts, " ") + ")"
}

var variableForm = regexp.MustCompile(`^v(0|[1-9][0-9]{0,4})$`)

// describedCore reads the datum of a term node by node, unlike the program,
// which writes again what it has read.
func describedCore(d impl.Datum) (impl.Core, bool) {
	c, ok := strictCore(d)
	if !ok || !isGoodAlone(c) {
		return impl.Core{}, false
	}
	return c, true
}

func isPlainSymbol(d impl.Datum) bool {
	return d.Kind == impl.DatumSymbol && d.Number == 0 && len(d.Items) == 0
}

func strictVariable(d impl.Datum) (int, bool) {
	if !isPlainSymbol(d) || !variableForm.MatchString(d.Text) {
		return 0, false
	}
	n, err := strconv.Atoi(d.Text[1:])
	return n, err == nil
}

func isPlainList(d impl.Datum) bool { return d.Kind == impl.DatumList && d.Number == 0 && d.Text == "" }

func strictVariables(d impl.Datum) ([]int, bool) {
	var numbers []int
	for _, item := range d.Items {
		n, ok := strictVariable(item)
		if !ok {
			return nil, false
		}
		numbers = append(numbers, n)
	}
	return numbers, isPlainList(d)
}

func strictCore(d impl.Datum) (impl.Core, bool) {
	if n := slices.Index(primitiveWords, d.Text); n >= 0 {
		return primitive(n), isPlainSymbol(d)
	}
	if n, ok := strictVariable(d); ok {
		return useOf(n), true
	}
	if !isPlainList(d) || len(d.Items) == 0 {
		return impl.Core{}, false
	}
	c, rest, ok := impl.Core{Kind: impl.CoreApply}, d.Items, true
	if head := d.Items[0]; isPlainSymbol(head) {
		for _, k := range kindsOfCores {
			if k.word != "" && head.Text == k.word {
				c.Kind, rest = k.kind, rest[1:]
			}
		}
	}
	if hasSecond := map[int]bool{impl.CoreQuote: true, impl.CoreAssign: true, impl.CoreLambda: true, impl.CoreLocal: true, impl.CoreShift: true}; hasSecond[c.Kind] {
		if len(rest) == 0 {
			return impl.Core{}, false
		}
		c, ok = withSecond(c, rest[0])
		rest = rest[1:]
	}
	for _, item := range rest {
		kid, fine := strictCore(item)
		c.Kids, ok = append(c.Kids, kid), ok && fine
	}
	return c, ok
}

// withSecond adds the item behind the word of a form.
func withSecond(c impl.Core, second impl.Datum) (impl.Core, bool) {
	ok := true
	switch c.Kind {
	case impl.CoreQuote:
		c.Datum = second
	case impl.CoreAssign:
		c.Number, ok = strictVariable(second)
	case impl.CoreShift:
		c.Params = make([]int, 1)
		c.Params[0], ok = strictVariable(second)
	default:
		c.Params, ok = strictVariables(second)
	}
	return c, ok
}

// goodCores has a term of each kind and of each limit, with globals for it.
func goodCores(t *testing.T) []goodCore {
	var result []goodCore
	for _, s := range []struct{ source, globals string }{
		{"'a", ""}, {"'()", ""}, {"'(if v1 v2)", ""}, {"v0", "0"}, {"v7", "9 7 8"}, {"v99999", "99999"}, {"+", ""}, {"display", "5"}, {"(set! v3 'a)", "3"}, {"(set! v0 (set! v99999 v0))", "99999 0"},
		{"(lambda () 1)", ""}, {"(lambda (v1) v1)", ""}, {"(lambda (v1 v2 v3 v4 v5 v6 v7 v8) (v8 v1))", ""}, {"(lambda (v0 v99999) (v0 v99999))", "1"}, {"(lambda (v5) (lambda (v4) (v5 v4)))", "6"},
		{"(+)", ""}, {"((lambda () 1))", ""}, {"(+ 1)", ""}, {"(- 1 2 3 4 5 6 7 8)", ""}, {"(v1 v1 v1)", "1"}, {"((v1))", "1"}, {"(if v1 v2 v3)", "3 2 1"}, {"(if #t \"a\" (if 1 2 3))", ""},
		{"(begin 1 2)", ""}, {"(begin (lambda (v1) v1) (lambda (v2) v2) (if 1 (begin 2 3) 4))", ""}, {"(local (v1) 1)", ""}, {"(local (v2 v1) (set! v1 v2) (set! v2 (begin 1 2)) (begin v1 v2))", "3"},
		{"(reset 1)", ""}, {"(reset (reset v1))", "1"}, {"(shift v1 v1)", ""}, {"(shift v0 (v0 (shift v99999 v99999)))", ""}, {"(reset (+ 1 (shift v1 (v1 (v1 2)))))", "0"},
	} {
		result = append(result, goodCore{term(t, s.source), numbersIn(t, s.globals)})
	}
	add := func(c impl.Core, globals ...int) { result = append(result, goodCore{c, globals}) }
	add(constant(list(atoms(599)...)))
	add(constant(nested(20)))
	add(node(impl.CoreSequence, constants(60)...))
	add(binder(impl.CoreLocal, from(99940, 60), constants(60)...), from(0, 60)...)
	add(sized(3000))
	add(within(149, constant(symbol("a"))))
	add(within(148, node(impl.CoreApply, useOf(1), useOf(2))), 2, 1)
	add(useOf(5), from(0, 100000)...)
	return result
}

type goodCore struct {
	c       impl.Core
	globals []int
}

// badCores are terms that are not valid with any globals, each for one reason.
func badCores(t *testing.T) []impl.Core {
	result := append(coresOfBadFields(), coresBeyondLimits()...)
	for _, source := range []string{
		"v-1", "v100000", "(set! v-1 1)", "(set! v100000 1)", "(lambda (v-1) 1)", "(lambda (v100000) 1)", "(local (v1 v-1) 1)", "(local (v100000) v100000)", "(shift v-1 v-1)", "(shift v100000 1)",
		"(lambda (v1 v1) 1)", "(lambda (v1) (lambda (v1) v1))", "(begin (lambda (v1) v1) (lambda (v1) v1))", "(local (v1) (lambda (v2) (shift v3 (local (v4 v1) 1))))", "(if (shift v1 1) (reset 2) (local (v1) 3))",
		"(local (v1 v2 v1) 1)", "(shift v1 (shift v1 1))", "((lambda (v1) v1) v1)", "(v1 (lambda (v1) v1))", "(begin (local (v1) 1) (set! v1 2))", "(begin (set! v1 2) (shift v1 v1))", "(set! v1 (lambda (v1) 1))", "(begin v1 (local (v2 v1) 1))",
		"(begin 1)", "(begin)", "(begin (begin 1 2) 3)", "(begin 1 (begin 2 3))", "(begin 1 2 (begin 3 4) 5)", "(lambda () (begin 1 (begin 2 3)))", "(if 1 2)", "(if 1 2 3 4)", "(if)", "()", "(local () 1)", "(local (v1))", "(reset)", "(reset 1 2)",
		"(shift () 1)", "(shift (v1 v2) 1)", "(shift v1)", "(shift v1 2 3)", "(set! v1)", "(set! v1 2 3)", "(lambda (v1))", "(lambda () 1 2)", "(lambda (v1 v2 v3 v4 v5 v6 v7 v8 v9) 1)", "(- 1 2 3 4 5 6 7 8 9)",
	} {
		result = append(result, term(t, source))
	}
	return result
}

func coresBeyondLimits() []impl.Core {
	return []impl.Core{
		sized(3001), node(impl.CoreReset, sized(3000)), within(150, constant(number(1))), within(149, node(impl.CoreApply, primitive(1))), within(deepNesting-1, constant(number(1))),
		binder(impl.CoreLocal, from(1, 61), constant(number(1))), binder(impl.CoreLocal, from(1, 1), constants(61)...), node(impl.CoreSequence, constants(61)...), node(impl.CoreSequence, constants(100000)...),
		node(impl.CoreApply, constants(10)...), node(impl.CoreApply, constants(100000)...), binder(impl.CoreLambda, from(1, 100000), constant(number(1))), binder(impl.CoreLocal, from(1, 100000), constant(number(1))),
		constant(list(atoms(600)...)), constant(nested(21)), constant(nested(deepNesting)), constant(list(atoms(100000)...)), primitive(-1), primitive(14), primitive(leastInt), primitive(greatestInt),
		node(impl.CoreReset, primitive(14)), node(impl.CoreApply, primitive(-1), constant(number(1))),
	}
}

// coresOfBadFields sets, for each kind, each field that it does not use, and
// adds or takes kids.
func coresOfBadFields() []impl.Core {
	result := []impl.Core{{}, {Kids: constants(1)}, {Params: from(1, 1), Kids: constants(1)}, {Datum: symbol("a")}, {Number: 1}}
	for _, kind := range noCoreKinds {
		result = append(result, node(kind), node(kind, constants(1)...), node(kind, constants(3)...), impl.Core{Kind: kind, Number: 1}, withDatum(node(kind), symbol("a")))
	}
	for _, k := range kindsOfCores {
		good := impl.Core{Kind: k.kind, Params: from(1, k.leastParams), Kids: constants(k.leastKids)}
		if k.last == 0 {
			for _, n := range []int{1, -1, 2, leastInt, greatestInt} {
				c := good
				c.Number = n
				result = append(result, c)
			}
		}
		for _, count := range []int{k.leastParams - 1, k.mostParams + 1, k.mostParams + 2} {
			if c := good; count >= 0 {
				c.Params = from(1, count)
				result = append(result, c)
			}
		}
		for _, count := range []int{k.leastKids - 1, k.mostKids + 1, k.mostKids + 2} {
			if c := good; count >= 0 {
				c.Kids = constants(count)
				result = append(result, c)
			}
		}
		for _, d := range []impl.Datum{{Number: 1}, {Text: "a"}, {Kind: 5}, {Kind: -1}, symbol("A"), symbol(""), boolean(2), number(impl.MaxNumber + 1), text("\n"), list(symbol("a"), symbol("A"))} {
			result = append(result, withDatum(good, d))
		}
		if k.kind != impl.CoreQuote {
			for _, d := range []impl.Datum{symbol("a"), number(0), number(1), boolean(0), text(""), list(list()), list(symbol("a"))} {
				result = append(result, withDatum(good, d))
			}
		}
	}
	return result
}

func withDatum(c impl.Core, d impl.Datum) impl.Core {
	c.Datum = d
	return c
}

// A termMaker makes valid terms with binders in no order of their numbers.
type termMaker struct {
	*generator
	binders int
}

func (m *termMaker) binder() int {
	m.binders++
	return 10 + m.binders*389%9973
}

func (m *termMaker) fresh(count int) []int {
	numbers := make([]int, count)
	for i := range numbers {
		numbers[i] = m.binder()
	}
	return numbers
}

// make returns a term in which the variables of scope may stand.
func (m *termMaker) make(depth int, scope []int) impl.Core {
	kind := 1 + m.below(11)
	if depth == 0 {
		kind = 1 + m.below(3)
	}
	switch kind {
	case impl.CoreQuote:
		return constant(m.datum(1))
	case impl.CoreVariable:
		return useOf(scope[m.below(len(scope))])
	case impl.CorePrimitive:
		return primitive(m.below(14))
	case impl.CoreAssign:
		return assignment(scope[m.below(len(scope))], m.make(depth-1, scope))
	case impl.CoreLambda, impl.CoreLocal, impl.CoreShift:
		params := m.fresh(1 + m.below(3))
		if kind == impl.CoreShift {
			params = params[:1]
		}
		count := 1
		if kind == impl.CoreLocal {
			count += m.below(3)
		}
		if kind == impl.CoreLambda && m.below(4) == 0 {
			params = nil
		}
		return binder(kind, params, m.kids(count, depth-1, append(scope[:len(scope):len(scope)], params...))...)
	case impl.CoreApply:
		return node(kind, m.kids(1+m.below(3), depth-1, scope)...)
	case impl.CoreIf:
		return node(kind, m.kids(3, depth-1, scope)...)
	case impl.CoreSequence:
		return node(kind, notSequences(m.kids(2+m.below(2), depth-1, scope))...)
	}
	return node(impl.CoreReset, m.make(depth-1, scope))
}

func (m *termMaker) kids(count, depth int, scope []int) []impl.Core {
	var kids []impl.Core
	for range count {
		kids = append(kids, m.make(depth, scope))
	}
	return kids
}

func notSequences(kids []impl.Core) []impl.Core {
	for i, kid := range kids {
		if kid.Kind == impl.CoreSequence {
			kids[i] = node(impl.CoreReset, kid)
		}
	}
	return kids
}

// core returns a valid term, in which the variables from 1 to 4 may be free.
func (g *generator) core(depth int) impl.Core {
	m := termMaker{generator: g, binders: g.below(9000)}
	return m.make(depth, from(1, 4))
}

// copiedCore copies a term, so that it can be changed.
func copiedCore(c impl.Core) impl.Core {
	c.Params = append([]int(nil), c.Params...)
	c.Datum = cloneWithSpare([]impl.Datum{c.Datum})[0]
	kids := c.Kids
	c.Kids = nil
	for _, kid := range kids {
		c.Kids = append(c.Kids, copiedCore(kid))
	}
	return c
}

func nodesOf(c *impl.Core) []*impl.Core {
	nodes := []*impl.Core{c}
	for i := range c.Kids {
		nodes = append(nodes, nodesOf(&c.Kids[i])...)
	}
	return nodes
}

// change returns a copy of a term in which a node is another one, so that it is
// often not valid.
func (g *generator) change(c impl.Core) impl.Core {
	c = copiedCore(c)
	nodes := nodesOf(&c)
	at, other := nodes[g.below(len(nodes))], copiedCore(*nodes[g.below(len(nodes))])
	switch g.below(9) {
	case 0:
		at.Kind = 1 + g.below(11)
	case 1:
		at.Number = []int{0, 1, 2, 13, 14, -1, 99999, 100000, other.Number, leastInt, greatestInt}[g.below(11)]
	case 2:
		at.Params = append(at.Params, other.Params...)
	case 3:
		at.Params = append(at.Params, g.below(6))
	case 4:
		at.Params = at.Params[:g.below(len(at.Params)+1)]
	case 5:
		at.Kids = append(at.Kids, other)
	case 6:
		at.Kids = at.Kids[:g.below(len(at.Kids)+1)]
	case 7:
		at.Datum = g.strange(1)
	case 8:
		*at = other
	}
	return c
}

// anyCore returns a term of any fields, mostly not a valid one.
func (g *generator) anyCore(depth int) impl.Core {
	c := impl.Core{Kind: 1 + g.below(11)}
	if g.below(4) == 0 {
		c.Kind = noCoreKinds[g.below(len(noCoreKinds))]
	}
	if g.below(2) == 0 {
		c.Number = []int{1, 2, 3, 4, -1, 0, 99999, 100000, leastInt, greatestInt}[g.below(10)]
	}
	for g.below(2) == 0 {
		c.Params = append(c.Params, []int{1, 2, 3, 4, 5, 6, -1, 100000, leastInt}[g.below(9)])
	}
	if c.Kind == impl.CoreQuote || g.below(6) == 0 {
		c.Datum = g.strange(1)
	}
	for depth > 0 && g.below(3) > 0 {
		c.Kids = append(c.Kids, g.anyCore(depth-1))
	}
	return c
}

// smallCores returns all terms of at most this depth over few variables, valid
// or not.
func smallCores(depth int, variables ...int) []impl.Core {
	all := []impl.Core{constant(number(1))}
	for _, n := range variables {
		all = append(all, useOf(n))
	}
	for range depth - 1 {
		next := slices.Clone(all)
		for _, c := range all {
			for _, n := range variables {
				next = append(next, binder(impl.CoreLambda, []int{n}, c), binder(impl.CoreLocal, []int{n}, c), assignment(n, c))
			}
			for _, d := range all {
				next = append(next, node(impl.CoreApply, c, d))
			}
		}
		all = next
	}
	return all
}
