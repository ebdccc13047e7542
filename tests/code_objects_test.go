package tests

import (
	"fmt"
	"slices"
	"strings"
	"testing"

	"loop.example/g03220/impl"
)

// A unitCase is a unit and its object.
type unitCase struct{ unit, wanted string }

func TestCompileUnit(t *testing.T) {
	for _, s := range []unitCase{
		{"a;;5", "a;;;0 0 0: constant 5; return"}, {"a;1;5", "a;1;;0 0 1: constant 5; return"}, {"a;1;(set! v1 5)", "a;1;;0 0 1: constant 5; write-box 0; return"}, {"a;1;v1", "a;1;;0 0 1: read-box 0; return"}, {"a;;v1", "a;;1;0 0 1: read-box 0; return"}, {"a;;(set! v1 5)", "a;;1;0 0 1: constant 5; write-box 0; return"}, {"a;0;v99999", "a;0;99999;0 0 2: read-box 1; return"}, {"zzzzzzzz;;+", "zzzzzzzz;;;0 0 0: primitive 0; return"},
		// Several globals, which need not stand in the body.
		{"a;2 1;(begin (set! v1 v3) (v2 v4 v3))", "a;2 1;3 4;0 0 4: read-box 2; write-box 1; pop; read-box 0; read-box 3; read-box 2; tail-call 2"}, {"a;9 8 7;v7", "a;9 8 7;;0 0 3: read-box 2; return"}, {"a;;(v3 v1 v2 v1 v3)", "a;;3 1 2;0 0 3: read-box 0; read-box 1; read-box 2; read-box 1; read-box 0; tail-call 4"}, {"a;1;(begin v5 v1 v4)", "a;1;5 4;0 0 3: read-box 1; pop; read-box 0; pop; read-box 2; return"},
		// Procedures that use globals, assigned or not: all are boxed.
		{"a;1;(lambda () v1)", "a;1;;0 0 1: read-box 0; return / 0 0 1: captured 0; closure 0; return"}, {"a;1;(set! v1 (lambda (v2) (v1 v2)))", "a;1;;1 1 1: read-box 0; local 0; tail-call 1 / 0 0 1: captured 0; closure 0; write-box 0; return"}, {"a;1;(lambda (v2) (v3 v2))", "a;1;3;1 1 1: read-box 0; local 0; tail-call 1 / 0 0 2: captured 1; closure 0; return"}, {"a;1 2;(lambda () (reset (v2 v3 v1)))", "a;1 2;3;0 0 3: read-box 0; read-box 1; read-box 2; tail-call 2 / 0 0 3: captured 0; captured 1; captured 2; reset 0; return / 0 0 3: captured 1; captured 2; captured 0; closure 1; return"},
		{"a;1;(begin (set! v1 2) (local (v4) (set! v4 v1) (shift v5 (v5 v4 v6))))", "a;1;6;1 1 2: local 0; read-box 0; read-box 1; tail-call 2 / 0 1 2: constant 2; write-box 0; pop; new-box 0; read-box 0; write-local 0; pop; local 0; captured 1; shift 0; return"}, {"a;1;(lambda (v2 v3) (set! v3 v1))", "a;1;;2 2 1: box-param 1; read-box 0; write-local 1; return / 0 0 1: captured 0; closure 0; return"},
	} {
		checkCompiledUnit(t, units(t, s.unit)[0], objectOf(t, s.wanted))
	}
}

func TestCompileUnitsThatAreNotValid(t *testing.T) {
	none := impl.Object{}
	for _, source := range []string{
		";;5", "A;;5", "zzzzzzzzz;;5", "1;;5", "-1;;5", "a b;;5", "a;1 1;5", "a;1 2 1;v2", "a;-1;5", "a;100000;5", "a;1 -1;5", "a;;v-1", "a;;v100000", "a;;(set! v-1 5)", "a;1;(set! v100000 5)", "a;-1;v-1", "a;1;(lambda (v1) 5)", "a;1;(local (v1) v1)", "a;1;(shift v1 v1)", "a;2 1;(begin v2 (lambda (v1) v1))", "a;;(begin v1 (lambda (v1) v1))", "a;;(begin (lambda (v1) v1) v1)", "a;;(begin (lambda (v1) 1) (lambda (v1) 2))", "a;;(lambda (v-1) 5)",
		"a;;(begin 1)", "a;;(if 1 2)", "a;;()", "a;1;(lambda (v2 v2) v1)", "a;1;(begin v1 (begin v1 v1))",
	} {
		checkCompiledUnit(t, units(t, source)[0], none)
	}
	for _, s := range noTexts {
		checkCompiledUnit(t, unit(s, nil, constant(number(1))), none)
	}
	checkCompiledUnit(t, impl.Unit{}, none)
	checkCompiledUnit(t, impl.Unit{Name: "a"}, none)
	for _, c := range badCores(t) {
		if impl.DepthOfCore(c) < 1000 && impl.DepthOf(c.Datum) < 1000 {
			checkCompiledUnit(t, unit("a", nil, c), none)
			checkCompiledUnit(t, unit("a", []int{50000}, node(impl.CoreReset, c)), none)
		}
	}
	for _, s := range someTexts {
		wanted, ok := describedCompiledUnit(unit(s, []int{4}, useOf(4)))
		if ok != (len(s) <= 8) {
			t.Errorf("a unit with the name %q is compiled: %v", s, ok)
		}
		checkCompiledUnit(t, unit(s, []int{4}, useOf(4)), wanted)
	}
}

func TestCompileUnitsUpToTheLimits(t *testing.T) {
	check := func(label string, u impl.Unit, ok bool) {
		t.Helper()
		wanted, fine := describedCompiledUnit(u)
		if fine != ok {
			t.Errorf("%s: the second compiler has %v", label, fine)
		}
		checkCompiledUnit(t, u, wanted)
	}
	one := constant(number(1))
	for _, many := range []int{0, 1, 60, 61, 499, 500, 501, 502, 3000} {
		check(fmt.Sprint(many, " globals"), unit("a", from(0, many), one), many <= 500)
		if many > 0 && many <= 502 {
			body := usingAll(many)
			check(fmt.Sprint(many, " uses"), unit("a", nil, body), many <= 500)
			check(fmt.Sprint(many, " globals, half of which are used"), unit("a", append(from(0, many/2), from(5000, many-many/2)...), body), many+many-many/2 <= 500)
		}
	}
	check("a global among 100000", unit("a", from(0, 100000), useOf(5)), false)
	for _, many := range []int{1499, 1500} {
		check(fmt.Sprint(many, " procedures"), unit("a", nil, procedures(many)), many+1 <= 1500)
	}
	for _, many := range []int{3999, 4000, 4001} {
		check(fmt.Sprint(many, " instructions"), unit("a", []int{99999}, sequence(append(filler(many-2), useOf(99999))...)), many <= 4000)
	}
	for _, slots := range []int{499, 500, 501} {
		check(fmt.Sprint(slots, " slots"), unit("a", []int{99999}, slotted(slots)), slots <= 500)
	}
	// A body that is too deep for a program of units is not too deep here.
	check("a depth of 150", unit("a", nil, within(149, one)), true)
	check("a sequence of 60", unit("a", nil, node(impl.CoreSequence, constants(60)...)), true)
	check("3001 nodes", unit("a", nil, sized(3001)), false)
}

// usingAll returns a term that uses this many variables.
func usingAll(many int) impl.Core {
	var kids []impl.Core
	for first := 0; first < many; first += 8 {
		args := []impl.Core{primitive(0)}
		for n := first; n < min(first+8, many); n++ {
			args = append(args, useOf(n))
		}
		kids = append(kids, called(args...))
	}
	for len(kids) > 59 {
		kids = append(kids[59:], sequenceWithin(kids[:59]))
	}
	return sequence(append(kids, constant(number(1)))...)
}

func TestCompileAnyUnits(t *testing.T) {
	g := generator(359)
	good, all := 0, 0
	for range 2500 {
		for _, u := range g.anyUnits() {
			wanted, ok := describedCompiledUnit(u)
			good, all = good+count(ok), all+1
			checkCompiledUnit(t, u, wanted)
		}
		if t.Failed() {
			return
		}
	}
	if good < all/2 || good == all {
		t.Errorf("%d of %d units are compiled", good, all)
	}
}

// plainObject returns an object that does nothing.
func plainObject(name string, defines, uses []int) impl.Object {
	m := impl.Image{Codes: []impl.Code{{Captures: len(defines) + len(uses), Instrs: []impl.Instr{constantInstr(number(1)), instr(impl.OpReturn, 0)}}}}
	return impl.Object{Name: name, Defines: defines, Uses: uses, Image: m}
}

func TestObjects(t *testing.T) {
	for _, s := range []struct {
		defines, uses string
		wanted        bool
	}{
		{"", "", true}, {"1", "", true}, {"", "1", true}, {"1", "2", true}, {"0 99999", "5 4", true}, {"3 2 1", "", true}, {"", "3 1 2", true}, {"-1", "", false}, {"", "-1", false}, {"100000", "", false}, {"", "100000", false}, {"1 -1", "2", false}, {"1", "2 100000", false}, {"1", "1", false}, {"1 2", "3 2", false}, {"1 1", "", false}, {"", "1 1", false}, {"1 2 1", "3", false}, {"1", "2 3 2", false},
		{fmt.Sprint(leastInt), "", false}, {"", fmt.Sprint(greatestInt), false}, {"4294967296", "0", false},
	} {
		checkObject(t, plainObject("a", numbersIn(t, s.defines), numbersIn(t, s.uses)), s.wanted)
	}
	for _, s := range someTexts {
		checkObject(t, plainObject(s, []int{1}, nil), len(s) <= 8)
	}
	for _, s := range append([]string{"zzzzzzzzz", "a b", "a ", " a", "object"[:0]}, noTexts...) {
		checkObject(t, plainObject(s, []int{1}, nil), false)
	}
	for _, s := range []string{"object", "defines", "uses", "code", "zzzzzzzz", "-", "..."} {
		checkObject(t, plainObject(s, []int{1}, []int{2}), true)
	}
	// The image has as many captured variables as there are of both.
	for captures := range 5 {
		o := plainObject("a", []int{1, 2}, []int{3})
		o.Image.Codes[0].Captures = captures
		checkObject(t, o, captures == 3)
	}
	for _, many := range []int{1, 250, 499, 500, 501, 600} {
		for _, defines := range []int{0, many / 2, many} {
			checkObject(t, plainObject("a", from(7, defines), from(7+defines, many-defines)), many <= 500)
		}
	}
	for _, source := range []string{"0 0 2: constant 1", "0 0 2: constant 1; return / 0 0 2: constant 1; return", "1 1 2: constant 1; return", "0 0 2: primitive 14; return", "0 0 2: captured 2; return"} {
		checkObject(t, impl.Object{Name: "a", Defines: []int{1}, Uses: []int{2}, Image: image(t, source)}, false)
	}
	for _, main := range []int{-1, 1, 2} {
		o := plainObject("a", nil, nil)
		o.Image.Main = main
		checkObject(t, o, false)
	}
	checkObject(t, objectOf(t, "a;1;2;1 1 1: local 0; captured 0; tail-call 1 / 0 0 2: captured 1; closure 0; write-box 0; return"), true)
	checkObject(t, objectOf(t, "a;;;0 0 0: constant 1; return / 0 0 0: enter 0; return"), true)
	checkObject(t, impl.Object{}, false)
	checkObject(t, impl.Object{Name: "a"}, false)
	empty := plainObject("a", []int{}, []int{})
	checkObject(t, empty, true)
}

func TestFormatObject(t *testing.T) {
	for _, s := range []struct {
		source string
		lines  []string
	}{
		{"a;;;0 0 0: constant 1; return", []string{"object a", "defines", "uses", "code 0 0 0", "constant 1", "return"}}, {"m-1;5;;0 0 1: constant 1; write-box 0; return", []string{"object m-1", "defines 5", "uses", "code 0 0 1", "constant 1", "write-box 0", "return"}}, {"b;;0;0 0 1: read-box 0; return", []string{"object b", "defines", "uses 0", "code 0 0 1", "read-box 0", "return"}},
		{"object;99999 3;4 12;0 0 0: constant (a b); return / 0 0 4: closure 0; return", []string{"object object", "defines 99999 3", "uses 4 12", "code 0 0 0", "constant (a b)", "return", "code 0 0 4", "closure 0", "return"}}, {"a;1;1;0 0 2: constant 1; return", nil}, {"a;1;2;0 0 1: constant 1; return", nil}, {"A;;;0 0 0: constant 1; return", nil},
	} {
		o := objectOf(t, s.source)
		if got := impl.FormatObject(o); !slices.Equal(got, s.lines) {
			t.Errorf("FormatObject(%s) = %q, not %q", s.source, got, s.lines)
		}
		checkObject(t, o, len(s.lines) > 0)
	}
}

func TestParseObject(t *testing.T) {
	none := impl.Object{}
	good := []string{"object a", "defines 1 2", "uses 3", "code 0 0 3", "captured 0", "return"}
	checkObjectLines(t, good, objectOf(t, "a;1 2;3;0 0 3: captured 0; return"))
	for at, others := range [][]string{
		{"", "object", "object ", "object A", "object a ", " object a", "object  a", "object a b", "object\ta", "Object a", "object a\n", "objects a", "a", "defines 1 2", "object zzzzzzzzz", "object 1", "object \"a\"", "module a", "code a"},
		{"", "defines", "defines ", "defines 1", "defines 1 2 3", "defines 1 2 ", " defines 1 2", "defines  1 2", "defines 1  2", "defines 1,2", "defines 1 02", "defines 1 +2", "defines 1 -2", "defines 1 a", "defines 1 100000", "defines 1 99999999999999999999", "defines 1 1", "defines 1 3", "Defines 1 2", "define 1 2", "defines1 2", "uses 1 2", "defines (1 2)", "defines 1\t2", "defines 1 2\n", "defines -0 1"},
		{"", "uses", "uses ", "uses 3 4", "uses 3 ", " uses 3", "uses  3", "uses 03", "uses a", "uses -3", "uses 100000", "uses 1", "uses 2", "uses 999999999999999999999", "Uses 3", "use 3", "uses3", "defines 3", "uses 3\n", "uses\t3"},
		{"", "code 0 0 2", "code 0 0 4", "code 1 1 3", "code 0 0", "code 0 0 03", "code", "captured 0"}, {"", "captured 3", "captured 0 ", "captured", "pop"}, {"", "return 0", "returns", "pop", "tail-call 1"},
	} {
		for _, other := range others {
			lines := slices.Clone(good)
			lines[at] = other
			checkObjectLines(t, lines, none)
		}
		// A line that is missing, twice there, or where another one should be.
		checkObjectLines(t, slices.Delete(slices.Clone(good), at, at+1), none)
		if good[at] != "return" && good[at] != "captured 0" {
			checkObjectLines(t, slices.Insert(slices.Clone(good), at, good[at]), none)
		}
		checkObjectLines(t, slices.Insert(slices.Clone(good), at, ""), none)
		checkObjectLines(t, good[:at], none)
		if at > 0 {
			lines := slices.Clone(good)
			lines[at-1], lines[at] = lines[at], lines[at-1]
			checkObjectLines(t, lines, none)
			checkObjectLines(t, good[at:], none)
		}
	}
	for _, lines := range [][]string{nil, {}, {""}, {"", "", ""}, {"", "", "", "", ""}, append(slices.Clone(good), ""), append(slices.Clone(good), good...), {strings.Join(good, "\n")}, {strings.Join(good, " ")}, {"object a", "defines", "uses"}, {"object a", "defines", "uses", ""}} {
		checkObjectLines(t, lines, none)
	}
	checkObjectLines(t, []string{"object a", "defines 1 3", "uses 2", "code 0 0 3", "captured 0", "return", "return"}, objectOf(t, "a;1 3;2;0 0 3: captured 0; return; return"))
	checkObjectLines(t, []string{"object a", "defines" + strings.Repeat(" 1", 100000), "uses", "code 0 0 3", "captured 0", "return"}, none)
	checkObjectLines(t, append(slices.Clone(good), slices.Repeat([]string{"pop"}, 100000)...), none)
}

func TestChangedLinesOfObjects(t *testing.T) {
	g := generator(367)
	good, all := 0, 0
	for range 300 {
		for _, u := range g.anyUnits() {
			o, ok := impl.CompileUnit(u)
			if !ok {
				continue
			}
			lines := impl.FormatObject(o)
			for range 12 {
				changed := g.changedLines(lines)
				wanted, ok := describedObject(changed)
				good, all = good+count(ok), all+1
				if got, fine := impl.ParseObject(changed); fine != ok || !sameObject(got, wanted) {
					t.Fatalf("ParseObject(%s) = %s, %v, not %s", showLines(changed), showObject(got), fine, showObject(wanted))
				}
			}
		}
	}
	if good < all/20 || good > all/2 {
		t.Errorf("%d of %d texts are those of objects", good, all)
	}
}

func (g *generator) changedObject(o impl.Object) impl.Object {
	o.Defines, o.Uses, o.Image = slices.Clone(o.Defines), slices.Clone(o.Uses), copiedImage(o.Image)
	n := []int{-1, 0, 1, 2, 3, 99999, 100000, leastInt, greatestInt}[g.below(9)]
	switch g.below(8) {
	case 0:
		o.Name = []string{"", "a", "A", "zzzzzzzz", "zzzzzzzzz", "a b"}[g.below(6)]
	case 1:
		o.Defines = append(o.Defines, n)
	case 2:
		o.Uses = append(o.Uses, n)
	case 3:
		o.Defines, o.Uses = o.Uses, o.Defines
	case 4:
		if len(o.Defines) > 0 {
			o.Defines[0] = n
		}
	case 5:
		if len(o.Uses) > 0 {
			o.Defines, o.Uses = append(o.Defines, o.Uses[0]), o.Uses[1:]
		}
	default:
		o.Image = g.changedImage(o.Image)
	}
	return o
}

func TestChangedObjects(t *testing.T) {
	g := generator(373)
	good, all := 0, 0
	for range 500 {
		for _, u := range g.anyUnits() {
			o, ok := impl.CompileUnit(u)
			if !ok {
				continue
			}
			for range 4 {
				changed := g.changedObject(o)
				wanted := isGoodObject(changed)
				good, all = good+count(wanted), all+1
				checkObject(t, changed, wanted)
			}
		}
		if t.Failed() {
			return
		}
	}
	if good < all/10 || good > all*2/3 {
		t.Errorf("%d of %d objects are valid", good, all)
	}
}
