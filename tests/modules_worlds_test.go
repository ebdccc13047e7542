package tests

import (
	"fmt"
	"slices"
	"testing"

	"loop.example/g03220/impl"
)

func variableExport(module, text string, n int) impl.Export {
	return impl.Export{Module: module, Text: text, Kind: impl.BindingVariable, Number: n}
}

func macroExport(module, text string, n int) impl.Export {
	return impl.Export{Module: module, Text: text, Kind: impl.BindingMacro, Number: n}
}

// smallWorld has two units with the globals 3, 1 and 4, the bound variable 5, and
// two macros.
func smallWorld(t *testing.T, exports ...impl.Export) impl.World {
	t.Helper()
	return impl.World{Expander: impl.Expander{Macros: manyMacros(t, 2), Variable: 7}, Units: units(t, "m;3 1;(set! v1 v3)", "n;4;(lambda (v5) v1)"), Exports: exports}
}

func TestNewWorld(t *testing.T) {
	w := impl.NewWorld()
	if !sameExpander(w.Expander, impl.LoadBase()) || len(w.Expander.Macros) != 9 || len(w.Units) != 0 || len(w.Exports) != 0 || !impl.IsWorld(w) {
		t.Errorf("NewWorld() = the %s", showWorld(w))
	}
}

// goodWorlds are valid.
func goodWorlds(t *testing.T) []impl.World {
	t.Helper()
	result := []impl.World{{}, {Units: []impl.Unit{}, Exports: []impl.Export{}}, impl.NewWorld()}
	for _, x := range goodExpanders(t) {
		result = append(result, impl.World{Expander: x})
	}
	for _, exports := range [][]impl.Export{
		nil, {variableExport("m", "a", 3)}, {variableExport("m", "a", 1)}, {variableExport("m", "a", 4)}, {variableExport("n", "a", 3)}, {macroExport("m", "a", 0)}, {macroExport("n", "a", 1)},
		{variableExport("m", "a", 3), variableExport("n", "a", 3)}, {variableExport("m", "a", 3), variableExport("m", "b", 3)}, {macroExport("m", "a", 1), variableExport("m", "b", 1)}, {variableExport("n", "a", 4), macroExport("m", "a", 0), macroExport("m", "b", 0)},
		{variableExport("m", "if", 3), variableExport("m", "...", 3), variableExport("m", "zzzzzzzzzzzzzzzz", 3)},
	} {
		result = append(result, smallWorld(t, exports...))
	}
	var many []impl.Export
	for i, s := range namesFor(3000) {
		many = append(many, macroExport("n", s, i%2))
	}
	result = append(result, smallWorld(t, many...))
	// A bound variable of a body may be the last one, and so may a global.
	result = append(result, impl.World{Expander: impl.Expander{Variable: 4}, Units: units(t, "m;4;1")}, impl.World{Expander: impl.Expander{Variable: 4}, Units: units(t, "m;3;(lambda (v4) 1)")}, impl.World{Units: units(t, "m;0;v0"), Exports: []impl.Export{variableExport("m", "a", 0)}})
	return result
}

// badWorlds are not valid, each for one reason.
func badWorlds(t *testing.T) []impl.World {
	t.Helper()
	var bad []impl.World
	for _, x := range badExpanders(t) {
		bad = append(bad, impl.World{Expander: x})
	}
	for _, list := range [][]string{{"m;;v1"}, {"m;1 1;1"}, {"m;1;1", "n;1;1"}, {"m;;1", "m;;1"}, {"m;;v1", "n;1;1"}, {"M;;1"}, {"m;8;1"}, {"m;1;1", "n;2 8 3;1"}, {"m;;(lambda (v8) 1)"}, {"m;1;1", "n;;(begin 1 (lambda (v2 v8) 1))"}, {"m;99999;1"}} {
		w := smallWorld(t)
		w.Units = units(t, list...)
		bad = append(bad, w)
	}
	for _, x := range []impl.Export{
		variableExport("o", "a", 3), variableExport("", "a", 3), variableExport("M", "a", 3), macroExport("mm", "a", 0), variableExport("m", "", 3), variableExport("m", "A", 3), variableExport("m", "1", 3), macroExport("m", "a b", 0), variableExport("m", "zzzzzzzzzzzzzzzzz", 3),
		variableExport("m", "a", 2), variableExport("m", "a", 5), variableExport("m", "a", 7), variableExport("m", "a", 0), variableExport("m", "a", 8), variableExport("m", "a", -1), variableExport("m", "a", leastInt), variableExport("m", "a", greatestInt), variableExport("m", "a", 1<<32+3),
		macroExport("m", "a", 2), macroExport("m", "a", 3), macroExport("m", "a", -1), macroExport("m", "a", leastInt), macroExport("m", "a", greatestInt), macroExport("m", "a", 1<<32),
		{Module: "m", Text: "a"}, {Module: "m", Text: "a", Number: 3}, {Module: "m", Text: "a", Kind: impl.BindingForm}, {Module: "m", Text: "a", Kind: impl.BindingForm, Number: 3}, {Module: "m", Text: "a", Kind: impl.BindingPrimitive, Number: 1}, {Module: "m", Text: "a", Kind: 5, Number: 1}, {Module: "m", Text: "a", Kind: -1, Number: 1}, {Module: "m", Text: "a", Kind: leastInt, Number: 1}, {Module: "m", Text: "a", Kind: 1<<32 + 3, Number: 1}, {},
	} {
		bad = append(bad, smallWorld(t, x), smallWorld(t, variableExport("m", "x", 3), x), smallWorld(t, x, macroExport("n", "x", 1)))
	}
	for _, exports := range [][]impl.Export{
		{variableExport("m", "a", 3), variableExport("m", "a", 3)}, {variableExport("m", "a", 3), variableExport("m", "a", 1)}, {variableExport("m", "a", 3), macroExport("m", "a", 1)}, {variableExport("m", "a", 3), variableExport("n", "a", 3), macroExport("m", "b", 0), macroExport("n", "a", 0)},
	} {
		bad = append(bad, smallWorld(t, exports...))
	}
	return append(bad, impl.World{Exports: []impl.Export{macroExport("m", "a", 0)}}, impl.World{Expander: impl.Expander{Variable: -1}}, impl.World{Exports: make([]impl.Export, 100000)})
}

func TestIsWorld(t *testing.T) {
	for _, w := range goodWorlds(t) {
		if !impl.IsWorld(w) || !isGoodWorld(w) {
			t.Errorf("IsWorld of the %s = false", showWorld(w))
		}
	}
	for _, w := range badWorlds(t) {
		if impl.IsWorld(w) {
			t.Errorf("IsWorld of the %s = true", showWorld(w))
		}
		after, code := impl.AddModule(w, impl.Module{Name: "new"})
		if code != impl.ModuleMalformed || !sameWorld(after, w) {
			t.Errorf("AddModule to the %s has the code %d", showWorld(w), code)
		}
	}
}

func TestIsWorldAtLimits(t *testing.T) {
	for n := range 12 {
		w := smallWorld(t)
		w.Expander.Variable = n
		if got := impl.IsWorld(w); got != (n >= 5) {
			t.Errorf("IsWorld with the variable %d = %v", n, got)
		}
		w = smallWorld(t, variableExport("m", "a", n))
		if got := impl.IsWorld(w); got != (n == 1 || n == 3 || n == 4) {
			t.Errorf("IsWorld with an export of the variable %d = %v", n, got)
		}
		w = smallWorld(t, macroExport("m", "a", n))
		if got := impl.IsWorld(w); got != (n < 2) {
			t.Errorf("IsWorld with an export of the macro %d = %v", n, got)
		}
		w = smallWorld(t, impl.Export{Module: "m", Text: "a", Kind: n - 3, Number: 1})
		if got := impl.IsWorld(w); got != (n-3 == 3 || n-3 == 4) {
			t.Errorf("IsWorld with an export of the kind %d = %v", n-3, got)
		}
	}
	var exports []impl.Export
	for i, s := range namesFor(100000) {
		exports = append(exports, variableExport([]string{"m", "n"}[i%2], s, []int{1, 3, 4}[i%3]))
	}
	if w := smallWorld(t, exports...); !impl.IsWorld(w) {
		t.Error("IsWorld with many exports = false")
	}
	if w := smallWorld(t, append(exports, exports[77])...); impl.IsWorld(w) {
		t.Error("IsWorld with an export that is there twice = true")
	}
}

// anyWorld returns a world of few fields, often not a valid one.
func (g *generator) anyWorld(t *testing.T) impl.World {
	t.Helper()
	w := impl.World{Expander: impl.Expander{Variable: 99999, Scope: 20, Macros: manyMacros(t, g.below(4))}}
	if g.below(4) > 0 {
		w.Units = g.anyUnits()
	}
	if g.below(6) == 0 {
		w.Expander = g.strangeExpander(t)
	}
	if globals := earlierGlobals(w.Units); len(globals) > 0 && g.below(8) == 0 {
		w.Expander.Variable = slices.Max(globals) - 1 + g.below(3)
	}
	for range g.below(5) {
		w.Exports = append(w.Exports, g.anyExport(w))
	}
	return w
}

func (g *generator) anyExport(w impl.World) impl.Export {
	x := impl.Export{Module: string(rune('a' + g.below(5))), Text: string(rune('a' + g.below(9))), Kind: impl.BindingMacro, Number: g.below(3)}
	if len(w.Units) > 0 && g.below(8) > 0 {
		x.Module = w.Units[g.below(len(w.Units))].Name
	}
	if globals := earlierGlobals(w.Units); len(globals) > 0 && g.below(3) > 0 {
		x.Kind, x.Number = impl.BindingVariable, globals[g.below(len(globals))]
	}
	switch g.below(16) {
	case 0:
		x.Text = noTexts[g.below(len(noTexts))]
	case 1:
		x.Kind = g.below(8) - 1
	case 2:
		x.Number += g.below(3) - 1
	}
	return x
}

func TestWorldsOfAny(t *testing.T) {
	g := generator(211)
	good, all := 0, 3000
	for range all {
		w := g.anyWorld(t)
		want := isGoodWorld(w)
		if want {
			good++
		}
		if got := impl.IsWorld(w); got != want {
			t.Errorf("IsWorld of the %s = %v", showWorld(w), got)
		}
		for range 5 {
			checkFind(t, w, string(rune('a'+g.below(6))), string(rune('a'+g.below(10))))
		}
	}
	if good < all/10 || good > all*9/10 {
		t.Errorf("%d of %d worlds are valid", good, all)
	}
}

// checkFind looks for an export from the last one on, unlike the program.
func checkFind(t *testing.T, w impl.World, module, text string) {
	t.Helper()
	var want impl.Export
	found := false
	for i := len(w.Exports) - 1; i >= 0; i-- {
		if w.Exports[i].Module == module && w.Exports[i].Text == text {
			want, found = w.Exports[i], true
		}
	}
	if got, ok := impl.FindExport(w, module, text); ok != found || got != want {
		t.Errorf("FindExport(%q, %q) of %.500v = %v, %v", module, text, w.Exports, got, ok)
	}
}

func TestFindExport(t *testing.T) {
	w := smallWorld(t, variableExport("m", "a", 3), macroExport("n", "a", 1), variableExport("m", "b", 1), variableExport("n", "c", 4), macroExport("m", "a", 0), variableExport("m", "ab", 4))
	for _, c := range []struct {
		module, text string
		want         impl.Export
		ok           bool
	}{
		{"m", "a", variableExport("m", "a", 3), true}, {"n", "a", macroExport("n", "a", 1), true}, {"m", "b", variableExport("m", "b", 1), true}, {"n", "c", variableExport("n", "c", 4), true}, {"m", "ab", variableExport("m", "ab", 4), true},
		{"n", "b", impl.Export{}, false}, {"m", "c", impl.Export{}, false}, {"a", "m", impl.Export{}, false}, {"", "a", impl.Export{}, false}, {"m", "", impl.Export{}, false}, {"", "", impl.Export{}, false}, {"o", "a", impl.Export{}, false}, {"ma", "b", impl.Export{}, false}, {"m", "aa", impl.Export{}, false}, {"mm", "a", impl.Export{}, false}, {"M", "a", impl.Export{}, false},
	} {
		if got, ok := impl.FindExport(w, c.module, c.text); ok != c.ok || got != c.want {
			t.Errorf("FindExport(%q, %q) = %v, %v", c.module, c.text, got, ok)
		}
		checkFind(t, w, c.module, c.text)
	}
	// Any world, also one that is not valid.
	strange := impl.Export{Module: "A b", Text: "\x00", Kind: leastInt, Number: greatestInt}
	for _, w := range []impl.World{{Exports: []impl.Export{{}, strange}}, {Exports: []impl.Export{strange, {}}, Expander: impl.Expander{Scope: -1}, Units: []impl.Unit{{}, {Body: branching(200)}}}} {
		if got, ok := impl.FindExport(w, "A b", "\x00"); !ok || got != strange {
			t.Errorf("FindExport of a strange export = %v, %v", got, ok)
		}
		if got, ok := impl.FindExport(w, "", ""); !ok || got != (impl.Export{}) {
			t.Errorf("FindExport of the zero value = %v, %v", got, ok)
		}
		checkFind(t, w, "A b", "")
	}
	for _, w := range []impl.World{{}, impl.NewWorld()} {
		if got, ok := impl.FindExport(w, "", ""); ok || got != (impl.Export{}) {
			t.Errorf("FindExport of a world without exports = %v, %v", got, ok)
		}
	}
	var many []impl.Export
	for i := range 1000 {
		many = append(many, variableExport(fmt.Sprint("m", i%10), fmt.Sprint("a", i/10), i))
	}
	for i := range 1000 {
		checkFind(t, impl.World{Exports: many}, fmt.Sprint("m", i%10), fmt.Sprint("a", i/10))
	}
}
