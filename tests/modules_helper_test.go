package tests

import (
	"fmt"
	"slices"
	"strings"
	"testing"

	"loop.example/g03220/impl"
)

// problemTexts are the texts of the codes of chapter 8, written apart from the
// program.
var problemTexts = map[int]string{21: "no such module", 22: "module is defined already", 23: "bad export", 24: "malformed module"}

// problemText writes any code.
func problemText(code int) string {
	if 0 <= code && code < len(codeTexts) {
		return codeTexts[code]
	}
	return problemTexts[code]
}

// mustReadModule reads the text of a module, which need not be valid.
func mustReadModule(t *testing.T, source string) impl.Module {
	t.Helper()
	items := mustParseOne(t, source).Items
	if len(items) < 4 || items[0].Text != "module" {
		t.Fatalf("%s is no module", source)
	}
	return impl.Module{Name: items[1].Text, Imports: textsIn(items[2]), Exports: textsIn(items[3]), Body: items[4:]}
}

func textsIn(d impl.Datum) []string {
	var texts []string
	for _, item := range d.Items {
		texts = append(texts, item.Text)
	}
	return texts
}

func symbolsOf(texts []string) []impl.Datum {
	var result []impl.Datum
	for _, s := range texts {
		result = append(result, symbol(s))
	}
	return result
}

// moduleDatum is the datum of any module, as chapter 8 describes it.
func moduleDatum(m impl.Module) impl.Datum {
	return list(slices.Concat([]impl.Datum{symbol("module"), symbol(m.Name), list(symbolsOf(m.Imports)...), list(symbolsOf(m.Exports)...)}, m.Body)...)
}

func sameModule(a, b impl.Module) bool {
	return a.Name == b.Name && slices.Equal(a.Imports, b.Imports) && slices.Equal(a.Exports, b.Exports) && sameData(a.Body, b.Body)
}

func isGoodName(s string) bool { return matchesSymbol(s) && len(s) <= 8 }

// allDiffer reports whether the texts are different.
func allDiffer(texts []string) bool {
	sorted := slices.Sorted(slices.Values(texts))
	return len(slices.Compact(sorted)) == len(texts)
}

// isGoodModule describes a valid module apart from IsModule, which is under
// test.
func isGoodModule(m impl.Module) bool {
	good := isGoodName(m.Name) && !slices.Contains(m.Imports, m.Name) && len(m.Imports) <= 12 && len(m.Exports) <= 60 && allDiffer(m.Imports) && allDiffer(m.Exports)
	for _, s := range m.Imports {
		good = good && isGoodName(s)
	}
	for _, s := range m.Exports {
		good = good && matchesSymbol(s)
	}
	nodes := 4 + len(m.Imports) + len(m.Exports)
	for _, d := range m.Body {
		good = good && fits(d, 19)
		nodes += impl.CountNodes(d)
	}
	return good && nodes <= 600
}

func unit(name string, globals []int, body impl.Core) impl.Unit {
	return impl.Unit{Name: name, Globals: globals, Body: body}
}

// units reads units of one module each: a name, globals and the text of a term,
// between semicolons.
func units(t *testing.T, sources ...string) []impl.Unit {
	t.Helper()
	var result []impl.Unit
	for _, source := range sources {
		fields := strings.Split(source, ";")
		if len(fields) != 3 {
			t.Fatalf("%q is no unit", source)
		}
		result = append(result, unit(fields[0], numbersIn(t, fields[1]), term(t, fields[2])))
	}
	return result
}

func sameUnit(a, b impl.Unit) bool {
	return a.Name == b.Name && sameInts(a.Globals, b.Globals) && sameCore(a.Body, b.Body)
}

func sameUnits(a, b []impl.Unit) bool { return slices.EqualFunc(a, b, sameUnit) }

func sameWorld(a, b impl.World) bool {
	return sameExpander(a.Expander, b.Expander) && sameUnits(a.Units, b.Units) && slices.Equal(a.Exports, b.Exports)
}

func isZeroWorld(w impl.World) bool { return sameWorld(w, impl.World{}) }

func showUnits(list []impl.Unit) string {
	var b strings.Builder
	for i, u := range list {
		if i == 14 {
			return b.String() + " .."
		}
		fmt.Fprintf(&b, " [%q %.200s %.200s]", u.Name, fmt.Sprint(u.Globals[:min(len(u.Globals), 70)]), showCore(u.Body))
	}
	return b.String()
}

func showWorld(w impl.World) string {
	return fmt.Sprintf("world of the units%s, the exports %.600v and the %.1000s", showUnits(w.Units), w.Exports[:min(len(w.Exports), 30)], showExpander(w.Expander))
}

func earlierGlobals(list []impl.Unit) []int {
	var globals []int
	for _, u := range list {
		globals = append(globals, u.Globals...)
	}
	return globals
}

func unitNames(list []impl.Unit) []string {
	var names []string
	for _, u := range list {
		names = append(names, u.Name)
	}
	return names
}

func fitsDescribed(u impl.Unit, globals []int) bool {
	return isGoodName(u.Name) && isGoodCore(u.Body, slices.Concat(globals, u.Globals))
}

// areGoodUnits describes valid units of few nodes, which share no memory.
func areGoodUnits(list []impl.Unit) bool {
	good := len(list) <= 12 && allDiffer(unitNames(list)) && len(earlierGlobals(list)) <= 60
	var numbers []int
	nodes, kids := 0, 0
	for i, u := range list {
		good = good && fitsDescribed(u, earlierGlobals(list[:i]))
		eachTerm(u.Body, func(around []impl.Core, _ impl.Core) {
			nodes++
			good = good && len(around)+1 < 150
		})
		numbers = slices.Concat(numbers, u.Globals, describedBound(u.Body))
		if u.Body.Kind == impl.CoreSequence {
			kids += len(u.Body.Kids)
		} else {
			kids++
		}
	}
	slices.Sort(numbers)
	return good && len(slices.Compact(slices.Clone(numbers))) == len(numbers) && nodes < 3000 && kids <= 60
}

// isGoodWorld describes a valid world apart from IsWorld, which is under test.
func isGoodWorld(w impl.World) bool {
	good := isGoodExpander(w.Expander) && areGoodUnits(w.Units)
	globals := earlierGlobals(w.Units)
	for _, u := range w.Units {
		for _, n := range slices.Concat(u.Globals, describedBound(u.Body)) {
			good = good && n <= w.Expander.Variable
		}
	}
	for i, x := range w.Exports {
		known := x.Kind == impl.BindingVariable && slices.Contains(globals, x.Number) || x.Kind == impl.BindingMacro && x.Number >= 0 && x.Number < len(w.Expander.Macros)
		good = good && known && matchesSymbol(x.Text) && slices.Contains(unitNames(w.Units), x.Module)
		for _, other := range w.Exports[:i] {
			good = good && (other.Module != x.Module || other.Text != x.Text)
		}
	}
	return good
}

// describedAdd adds a module with the second expander.
func describedAdd(w impl.World, m impl.Module) (impl.World, int) {
	if !isGoodWorld(w) || !isGoodModule(m) {
		return w, impl.ModuleMalformed
	}
	if slices.Contains(unitNames(w.Units), m.Name) {
		return w, impl.ModuleDefined
	}
	for _, name := range m.Imports {
		if !slices.Contains(unitNames(w.Units), name) {
			return w, impl.ModuleMissing
		}
	}
	x := w.Expander
	x.Steps = 200
	after, y, code := described(x, nil, func(k *secondExpander) impl.World { return k.module(w, m) })
	if code != impl.ModuleOk {
		return w, code
	}
	after.Expander = y
	return after, impl.ModuleOk
}

// module returns the units and exports of w with those of m.
func (k *secondExpander) module(w impl.World, m impl.Module) impl.World {
	scope := k.fresh(impl.ScopeBinding)
	for _, name := range m.Imports {
		for _, x := range w.Exports {
			if x.Module == name {
				k.bringIn(x, scope)
			}
		}
	}
	var forms []impl.Syntax
	for _, d := range m.Body {
		forms = append(forms, impl.SyntaxOf(d))
	}
	kept := k.keep(added(forms, scope))
	body := constant(list())
	if terms := k.keptTerms(kept); len(terms) > 0 {
		body = sequence(terms...)
	}
	exports := slices.Clone(w.Exports)
	for _, s := range m.Exports {
		b, _ := impl.Resolve(k.Bindings, identifier(s, scope))
		stopIf(b.Kind != impl.BindingVariable && b.Kind != impl.BindingMacro, impl.ModuleExport)
		exports = append(exports, impl.Export{Module: m.Name, Text: s, Kind: b.Kind, Number: b.Number})
	}
	all := append(slices.Clone(w.Units), unit(m.Name, definedIn(kept), body))
	stopIf(!areGoodUnits(all), impl.ExpandLarge)
	return impl.World{Units: all, Exports: exports}
}

// bringIn binds an export, unless the module has it under this name already.
func (k *secondExpander) bringIn(x impl.Export, scope int) {
	for _, b := range k.Bindings {
		if b.Text == x.Text && sameInts(b.Scopes, []int{scope}) && b.Kind == x.Kind && b.Number == x.Number {
			return
		}
	}
	k.bind(identifier(x.Text, scope), x.Kind, x.Number)
}

// checkAdd checks AddModule against the second expander, and returns what it
// returns.
func checkAdd(t *testing.T, w impl.World, m impl.Module) (impl.World, int) {
	t.Helper()
	got, code := impl.AddModule(w, m)
	wanted, wantedCode := describedAdd(w, m)
	if code != wantedCode {
		t.Errorf("AddModule of %.1500s has the code %d, not %d", describedText(moduleDatum(m)), code, wantedCode)
	}
	if !sameWorld(got, wanted) {
		t.Errorf("AddModule of %.1500s returns the %s, not the %s", describedText(moduleDatum(m)), showWorld(got), showWorld(wanted))
	}
	if code == impl.ModuleOk && impl.IsWorld(got) != hasOnlyKnownExports(got) {
		t.Errorf("AddModule of %.1500s returns the %s, which is valid: %v", describedText(moduleDatum(m)), showWorld(got), impl.IsWorld(got))
	}
	return got, code
}

// hasOnlyKnownExports tells the worlds that AddModule returns from those in which
// a variable is exported that an expander had before, and that is no global.
func hasOnlyKnownExports(w impl.World) bool {
	for _, x := range w.Exports {
		if x.Kind == impl.BindingVariable && !slices.Contains(earlierGlobals(w.Units), x.Number) {
			return false
		}
	}
	return true
}

// addAll adds modules to a new world, as checkAdd does, up to the first one that
// fails.
func addAll(t *testing.T, modules ...impl.Module) (impl.World, int) {
	t.Helper()
	w := impl.NewWorld()
	for _, m := range modules {
		var code int
		if w, code = checkAdd(t, w, m); code != impl.ModuleOk {
			return w, code
		}
	}
	return w, impl.ModuleOk
}

// program reads the texts of modules.
func program(t *testing.T, source string) []impl.Module {
	t.Helper()
	var modules []impl.Module
	for _, d := range mustParse(t, source) {
		modules = append(modules, mustReadModule(t, impl.FormatDatum(d)))
	}
	return modules
}

// mustLoad adds the modules of a text, and fails if there is a problem.
func mustLoad(t *testing.T, source string) impl.World {
	t.Helper()
	w, code := addAll(t, program(t, source)...)
	if code != impl.ModuleOk {
		t.Fatalf("%s has the code %d", source, code)
	}
	return w
}

// loaded writes the bodies of the units of a program, or the text of its code.
func loaded(t *testing.T, source string) string {
	t.Helper()
	w, code := addAll(t, program(t, source)...)
	if code != impl.ModuleOk {
		return problemText(code)
	}
	var texts []string
	for _, u := range w.Units {
		texts = append(texts, describedText(describedDatum(u.Body)))
	}
	return strings.Join(texts, " ; ")
}

// A moduleCase is a program, and what loaded writes of it.
type moduleCase struct{ source, want string }

func checkLoaded(t *testing.T, cases []moduleCase) {
	t.Helper()
	for _, c := range cases {
		if got := loaded(t, c.source); got != c.want {
			t.Errorf("%s: %s, not %s", c.source, got, c.want)
		}
	}
}
