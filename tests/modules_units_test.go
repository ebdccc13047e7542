package tests

import (
	"fmt"
	"slices"
	"strings"
	"testing"

	"loop.example/g03220/impl"
)

func TestUnitFits(t *testing.T) {
	for _, c := range []struct {
		unit, globals string
		want          bool
	}{
		{"m;;1", "", true}, {"m;;1", "3 1 2", true}, {"m;1;v1", "", true}, {"m;;v1", "1", true}, {"m;1 2;(v1 v2 v3 v4)", "3 4", true}, {"m;2 1;(v1 v2 v3 v4)", "4 3", true}, {"m;0;v0", "99999", true}, {"m;99999;v99999", "0", true}, {"m;0;(set! v99999 v0)", "99999", true}, {"m;5;1", "7", true}, {"m;1;(set! v1 (lambda (v2) v2))", "3", true}, {"module;;1", "", true}, {"zzzzzzzz;;1", "", true}, {"-;;1", "", true},
		{"m;;v1", "", false}, {"m;1;v2", "", false}, {"m;1;v2", "3", false}, {"m;1;(set! v2 1)", "3", false}, {"m;1;(lambda (v2) v4)", "3", false},
		{"m;1 1;1", "", false}, {"m;1 2 3 2;1", "", false}, {"m;;1", "1 1", false}, {"m;;1", "4 5 4", false}, {"m;1;1", "1", false}, {"m;1 2;1", "3 2", false}, {"m;1 2;v1", "3 1", false},
		{"m;-1;1", "", false}, {"m;;1", "-1", false}, {"m;100000;1", "", false}, {"m;;1", "100000", false}, {"m;1 -1 2;1", "", false}, {"m;-1;v-1", "", false}, {"m;100000;v100000", "", false}, {"m;;v100000", "100000", false},
		{"m;1;(lambda (v1) v1)", "", false}, {"m;;(lambda (v1) v1)", "1", false}, {"m;1;(lambda (v2) (shift v1 1))", "", false}, {"m;1;(lambda (v2) (lambda (v2) 1))", "", false}, {"m;;(begin (lambda (v2) 1) (lambda (v2) 1))", "", false}, {"m;1;(lambda (v2) v1)", "2", false},
		{"zzzzzzzzz;;1", "", false}, {";;1", "", false}, {"M;;1", "", false}, {"1;;1", "", false}, {"-1;;1", "", false}, {"a b;;1", "", false}, {"m;;(begin 1)", "", false}, {"m;;()", "", false}, {"m;;(if 1 2)", "", false},
	} {
		u := units(t, c.unit)[0]
		globals := numbersIn(t, c.globals)
		if got := impl.UnitFits(u, globals); got != c.want || fitsDescribed(u, globals) != c.want {
			t.Errorf("UnitFits(%s, %s) = %v", c.unit, c.globals, got)
		}
	}
}

func TestUnitFitsBodies(t *testing.T) {
	for _, good := range goodCores(t) {
		for _, cut := range []int{0, len(good.globals) / 2, len(good.globals)} {
			if !impl.UnitFits(unit("m", good.globals[:cut], good.c), good.globals[cut:]) {
				t.Errorf("UnitFits of %s, %d of its globals = false", showCore(good.c), cut)
			}
			if len(good.globals) > cut && impl.UnitFits(unit("m", good.globals[:cut], good.c), good.globals[cut+1:]) && slices.Contains(describedFree(good.c), good.globals[cut]) {
				t.Errorf("UnitFits of %s without a global = true", showCore(good.c))
			}
		}
		if impl.UnitFits(unit("toolong..", nil, good.c), good.globals) || impl.UnitFits(unit("", nil, good.c), good.globals) {
			t.Errorf("UnitFits of %s without a name = true", showCore(good.c))
		}
	}
	for _, c := range badCores(t) {
		if impl.UnitFits(unit("m", from(0, 5), c), from(5, 20)) || impl.UnitFits(unit("m", nil, c), nil) {
			t.Errorf("UnitFits of %s = true", showCore(c))
		}
	}
	for _, c := range []impl.Core{branching(200), branching(2000)} {
		if impl.UnitFits(unit("m", nil, c), nil) {
			t.Error("UnitFits of a huge term = true")
		}
	}
	for length := range 20 {
		if got := impl.UnitFits(unit(strings.Repeat("a", length), nil, constant(number(1))), nil); got != (length >= 1 && length <= 8) {
			t.Errorf("UnitFits of a name of %d bytes = %v", length, got)
		}
	}
	for _, s := range noTexts {
		if impl.UnitFits(unit(s, nil, constant(number(1))), nil) {
			t.Errorf("UnitFits of the name %q = true", s)
		}
	}
}

func TestUnitFitsOfAny(t *testing.T) {
	g := generator(197)
	good, all := 0, 4000
	for i := range all {
		c := g.core(1 + i%4)
		if g.below(3) == 0 {
			c = g.change(c)
		}
		u := unit(g.moduleName(), g.someNumbers(), c)
		globals := g.someNumbers()
		if g.below(2) == 0 {
			globals = from(1, 4)
			u.Globals = u.Globals[:0]
		}
		want := fitsDescribed(u, globals)
		if want {
			good++
		}
		if got := impl.UnitFits(u, globals); got != want {
			t.Errorf("UnitFits(%s, %v) = %v", showUnits([]impl.Unit{u}), globals, got)
		}
	}
	if good < all/10 || good > all*9/10 {
		t.Errorf("%d of %d units fit", good, all)
	}
}

func (g *generator) someNumbers() []int {
	var numbers []int
	for g.below(3) > 0 {
		numbers = append(numbers, []int{1, 2, 3, 4, 5, 6, 0, -1, 99999, 100000, leastInt, greatestInt}[min(g.below(12), g.below(16))])
	}
	return numbers
}

// shifted adds a number to all variables of a term.
func shifted(c impl.Core, by int) impl.Core {
	c = copiedCore(c)
	for _, at := range nodesOf(&c) {
		if usesNumber(*at) {
			at.Number += by
		}
		for i := range at.Params {
			at.Params[i] += by
		}
	}
	return c
}

// describedProgram is the program of valid units.
func describedProgram(list []impl.Unit) impl.Core {
	var bodies []impl.Core
	for _, u := range list {
		bodies = append(bodies, u.Body)
	}
	if globals := earlierGlobals(list); len(globals) > 0 {
		return binder(impl.CoreLocal, globals, bodies...)
	}
	return sequence(bodies...)
}

// checkUnits checks the functions that ask for valid units.
func checkUnits(t *testing.T, list []impl.Unit, want bool) {
	t.Helper()
	var wanted impl.Core
	if want && len(list) > 0 {
		wanted = describedProgram(list)
	}
	got, ok := impl.ProgramOf(list)
	if ok != (want && len(list) > 0) || !sameCore(got, wanted) {
		t.Errorf("ProgramOf of%s = %.1000s, %v, not %.1000s", showUnits(list), showCore(got), ok, showCore(wanted))
	}
	if ok && !impl.IsCore(got, nil) {
		t.Errorf("ProgramOf of%s = %.1000s, which is not valid", showUnits(list), showCore(got))
	}
	w := impl.World{Expander: impl.Expander{Variable: 99999}, Units: list}
	if got := impl.IsWorld(w); got != want {
		t.Errorf("IsWorld with the units%s = %v", showUnits(list), got)
	}
	if after, code := impl.AddModule(w, impl.Module{Name: "new"}); !want && (code != impl.ModuleMalformed || !sameWorld(after, w)) {
		t.Errorf("AddModule to the units%s has the code %d", showUnits(list), code)
	}
	var globals []int
	for _, u := range list {
		globals = append(globals, u.Globals...)
	}
	if got := impl.GlobalsOf(list); !sameInts(got, globals) {
		t.Errorf("GlobalsOf of%s = %v", showUnits(list), got)
	}
}

func TestUnits(t *testing.T) {
	for _, list := range [][]string{
		{}, {"m;;1"}, {"m;;(begin 1 2)"}, {"m;1;(set! v1 1)"}, {"m;1 2;1"}, {"m;2 1;(begin (set! v2 1) (set! v1 v2))"}, {"m;;1", "n;;2"}, {"m;;(begin 1 2)", "n;;3", "o;;(begin 4 5 6)"}, {"m;;(if 1 (begin 2 3) 4)", "n;;3"},
		{"m;1;(set! v1 1)", "n;2;(set! v2 v1)"}, {"m;1;1", "n;;(set! v1 v1)"}, {"m;1;v1", "n;;(lambda (v2) v1)", "o;3 0;(begin v1 v3 v0)"}, {"m;;1", "n;1;v1", "o;;v1"}, {"m;5;(lambda (v1) v5)", "n;4;(lambda (v2) (v4 v5 v2))", "o;3;(v3 v4 v5)"}, {"m;99999;v99999", "n;0;(v0 v99999)"}, {"n;;1", "m;1;v1"},
	} {
		checkUnits(t, units(t, list...), true)
	}
	for _, list := range [][]string{
		{"m;;v1"}, {"m;1;v2"}, {"m;;v1", "n;1;v1"}, {"m;1;v2", "n;2;v1"}, {"m;;1", "n;;v1"}, {"m;;(begin 1 v3)", "n;;1", "o;3;v3"}, {"m;1;(lambda (v2) v1)", "n;;v2"}, {"m;;(local (v1) v1)", "n;;v1"},
		{"m;;1", "m;;2"}, {"m;;1", "n;;1", "m;;1"}, {"m;;1", "zzzzzzzzz;;1"}, {";;1", "n;;1"}, {"m;;1", "N;;1"},
		{"m;1 1;1"}, {"m;1;1", "n;1;1"}, {"m;1 2;1", "n;3 2;1"}, {"m;1;1", "n;2;1", "o;1;1"}, {"m;-1;1"}, {"m;100000;1"}, {"m;;1", "n;-1;1"}, {"m;0;1", "n;100000;1"},
		// What is bound in one unit is nothing else in another one.
		{"m;1;(lambda (v1) 1)"}, {"m;1;1", "n;;(lambda (v1) 1)"}, {"m;;(lambda (v1) 1)", "n;1;1"}, {"m;;(lambda (v1) 1)", "n;;(lambda (v1) 1)"}, {"m;;(local (v1 v2) 1)", "n;;1", "o;;(shift v2 1)"}, {"m;;(lambda (v3) 1)", "n;;1", "o;1 2 3;1"}, {"m;;(lambda (v1) (lambda (v1) 1))"},
		{"m;;(begin 1)"}, {"m;;1", "n;;(if 1 2)"}, {"m;;()", "n;;1"}, {"m;;(begin 1 (begin 2 3))"},
	} {
		checkUnits(t, units(t, list...), false)
	}
	checkUnits(t, nil, true)
	checkUnits(t, []impl.Unit{}, true)
	checkUnits(t, []impl.Unit{{}}, false)
	checkUnits(t, []impl.Unit{{Name: "m"}}, false)
	for _, c := range badCores(t) {
		if impl.DepthOfCore(c) < 1000 {
			checkUnits(t, []impl.Unit{unit("m", nil, c)}, false)
			checkUnits(t, []impl.Unit{unit("l", from(1, 4), constant(number(1))), unit("m", nil, c)}, false)
		}
	}
	for _, c := range []impl.Core{branching(200), within(deepNesting-1, constant(number(1))), constant(nested(deepNesting))} {
		if _, ok := impl.ProgramOf([]impl.Unit{unit("m", nil, c)}); ok || impl.IsWorld(impl.World{Units: []impl.Unit{unit("m", nil, c)}}) {
			t.Error("a huge term is valid in a unit")
		}
	}
}

// manyUnits returns units with these bodies.
func manyUnits(bodies ...impl.Core) []impl.Unit {
	var result []impl.Unit
	for i, body := range bodies {
		result = append(result, unit(fmt.Sprint("u", i), nil, body))
	}
	return result
}

func TestUnitsAtLimits(t *testing.T) {
	one := constant(number(1))
	for n := range 16 {
		checkUnits(t, manyUnits(constants(n)...), n <= 12)
		list := manyUnits(constants(n)...)
		for i := range list {
			list[i].Globals = []int{50 - i}
		}
		checkUnits(t, list, n <= 12)
	}
	for _, n := range []int{59, 60, 61, 62, 100} {
		checkUnits(t, []impl.Unit{unit("m", from(0, n), one)}, n <= 60)
		checkUnits(t, []impl.Unit{unit("m", from(0, n-1), one), unit("n", []int{99999}, one)}, n <= 60)
		checkUnits(t, []impl.Unit{unit("m", nil, one), unit("n", from(0, n-20), one), unit("o", from(100, 20), one)}, n <= 60)
	}
	// The nodes of all bodies.
	for _, nodes := range []int{2998, 2999, 3000, 3001} {
		checkUnits(t, manyUnits(sized(nodes)), nodes <= 2999)
		checkUnits(t, []impl.Unit{unit("m", []int{1}, sized(nodes))}, nodes <= 2999)
		checkUnits(t, manyUnits(node(impl.CoreReset, sized(nodes-2)), one), nodes <= 2999)
		checkUnits(t, manyUnits(node(impl.CoreReset, sized(1000)), node(impl.CoreReset, shifted(sized(1000), 1000)), node(impl.CoreReset, shifted(sized(nodes-2003), 2000))), nodes <= 2999)
	}
	// The depth of each body.
	for _, depth := range []int{1, 2, 148, 149, 150, 151} {
		deep := within(depth-1, one)
		checkUnits(t, manyUnits(deep), depth <= 149)
		checkUnits(t, []impl.Unit{unit("m", []int{1}, one), unit("n", nil, deep)}, depth <= 149)
		checkUnits(t, manyUnits(deep, deep, deep), depth <= 149)
		checkUnits(t, manyUnits(deep, one), depth <= 149)
	}
	// The kids of a sequence of all bodies.
	for _, n := range []int{58, 59, 60, 61} {
		checkUnits(t, manyUnits(node(impl.CoreSequence, constants(n)...)), n <= 60)
		checkUnits(t, manyUnits(node(impl.CoreSequence, constants(n-1)...), one), n <= 60)
		checkUnits(t, manyUnits(one, node(impl.CoreSequence, constants(n-1)...)), n <= 60)
		checkUnits(t, manyUnits(node(impl.CoreSequence, constants(n-30)...), node(impl.CoreSequence, constants(30)...)), n <= 60)
		checkUnits(t, []impl.Unit{unit("m", []int{1}, node(impl.CoreSequence, constants(n-30)...)), unit("n", nil, node(impl.CoreSequence, constants(30)...))}, n <= 60)
		checkUnits(t, manyUnits(node(impl.CoreApply, constants(9)...), node(impl.CoreSequence, constants(n-2)...), binder(impl.CoreLocal, from(1, 1), constants(60)...)), n <= 60)
	}
	// A body that is no sequence counts as one, whatever it has within.
	checkUnits(t, manyUnits(node(impl.CoreReset, node(impl.CoreSequence, constants(60)...)), node(impl.CoreReset, node(impl.CoreSequence, constants(60)...)), binder(impl.CoreLocal, from(1, 1), constants(60)...)), true)
}

func TestGlobalsOf(t *testing.T) {
	for _, c := range []struct {
		units []impl.Unit
		want  []int
	}{
		{nil, nil}, {[]impl.Unit{}, nil}, {[]impl.Unit{{}, {}}, nil}, {[]impl.Unit{{Globals: []int{}}}, nil}, {[]impl.Unit{{Globals: []int{3, 1}}, {}, {Globals: []int{2}}}, []int{3, 1, 2}}, {[]impl.Unit{{Globals: []int{1, 1}}, {Globals: []int{1}}}, []int{1, 1, 1}},
		{[]impl.Unit{{Globals: []int{leastInt, -1}}, {Globals: []int{greatestInt, 100000}}}, []int{leastInt, -1, greatestInt, 100000}}, {[]impl.Unit{{Name: "A", Globals: []int{5}, Body: useOf(7)}, {Name: "A", Globals: []int{4}, Body: binder(impl.CoreLambda, []int{9})}}, []int{5, 4}},
		{[]impl.Unit{{Globals: from(0, 100000)}, {Globals: from(0, 2)}}, append(from(0, 100000), 0, 1)}, {[]impl.Unit{{Body: within(deepNesting-1, constant(number(1)))}, {Globals: []int{8}, Body: branching(200)}}, []int{8}},
	} {
		if got := impl.GlobalsOf(c.units); !sameInts(got, c.want) {
			t.Errorf("GlobalsOf of%s = %.100v", showUnits(c.units), got)
		}
	}
	list := make([]impl.Unit, 1000)
	for i := range list {
		list[i].Globals = []int{-i}
	}
	if got := impl.GlobalsOf(list); len(got) != 1000 || got[999] != -999 {
		t.Errorf("GlobalsOf of 1000 units has %d globals", len(got))
	}
}

func TestProgramOf(t *testing.T) {
	for _, c := range []struct {
		units []string
		want  string
	}{
		{[]string{"m;;1"}, "(quote 1)"}, {[]string{"m;;(begin 1 2)"}, "(begin (quote 1) (quote 2))"}, {[]string{"m;1;1"}, "(local (v1) (quote 1))"}, {[]string{"m;3 1;(begin v3 v1)"}, "(local (v3 v1) (begin v3 v1))"}, {[]string{"m;;'()"}, "(quote ())"},
		{[]string{"m;;1", "n;;2"}, "(begin (quote 1) (quote 2))"}, {[]string{"m;;(begin 1 2)", "n;;3", "o;;(begin 4 5)"}, "(begin (quote 1) (quote 2) (quote 3) (quote 4) (quote 5))"}, {[]string{"m;;(begin 1 2)", "n;1;3", "o;;(begin 4 v1)"}, "(local (v1) (begin (quote 1) (quote 2)) (quote 3) (begin (quote 4) v1))"}, {[]string{"m;2;1", "n;1;v2"}, "(local (v2 v1) (quote 1) v2)"}, {[]string{"m;;(reset (begin 1 2))", "n;;(lambda () (begin 3 4))"}, "(begin (reset (begin (quote 1) (quote 2))) (lambda () (begin (quote 3) (quote 4))))"},
	} {
		got, ok := impl.ProgramOf(units(t, c.units...))
		if !ok || impl.FormatCore(got) != c.want {
			t.Errorf("ProgramOf(%q) = %s, %v, not %s", c.units, showCore(got), ok, c.want)
		}
	}
}

// anyUnits returns units that are often not valid.
func (g *generator) anyUnits() []impl.Unit {
	var list []impl.Unit
	m := termMaker{generator: g}
	known := []int{}
	for i := range g.below(5) {
		u := unit(string(rune('a'+i)), nil, impl.Core{})
		for range g.below(3) {
			u.Globals = append(u.Globals, m.binder())
		}
		known = append(known, u.Globals...)
		if len(known) == 0 {
			u.Globals = []int{m.binder()}
			known = append(known, u.Globals...)
		}
		u.Body = m.make(g.below(4), known)
		switch g.below(25) {
		case 0:
			u.Body = g.change(u.Body)
		case 1:
			u.Globals = append(u.Globals, g.someNumbers()...)
		case 2:
			u.Name = string(rune('a' + g.below(5)))
		case 3:
			u.Globals = u.Globals[:g.below(len(u.Globals)+1)]
		case 4:
			u.Globals = append(u.Globals, known[g.below(len(known))])
		}
		list = append(list, u)
	}
	if g.below(12) == 0 && len(list) > 1 {
		list[0], list[len(list)-1] = list[len(list)-1], list[0]
	}
	return list
}

func TestUnitsOfAny(t *testing.T) {
	g := generator(199)
	good, all := 0, 3000
	for range all {
		list := g.anyUnits()
		want := areGoodUnits(list)
		if want {
			good++
		}
		checkUnits(t, list, want)
	}
	if good < all/5 || good > all*9/10 {
		t.Errorf("%d of %d lists of units are valid", good, all)
	}
}
