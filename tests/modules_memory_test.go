package tests

import (
	"slices"
	"testing"

	"loop.example/g03220/impl"
)

// withSpare copies a list into one with spare capacity, which has a marker.
func withSpare[T any](list []T, marker T) []T {
	result := append(make([]T, 0, len(list)+2), list...)
	result[:cap(result)][len(result)], result[:cap(result)][len(result)+1] = marker, marker
	return result
}

// isSpareIntact reports whether the spare capacity still has the marker.
func isSpareIntact[T any](list []T, same func(a, b T) bool, marker T) bool {
	return !slices.ContainsFunc(list[len(list):cap(list)], func(element T) bool { return !same(element, marker) })
}

const spareText = "spare"

var (
	spareUnit   = impl.Unit{Name: spareText}
	spareExport = impl.Export{Module: spareText}
)

func sameText(a, b string) bool { return a == b }

func sameExport(a, b impl.Export) bool { return a == b }

func moduleWithSpare(m impl.Module) impl.Module {
	return impl.Module{Name: m.Name, Imports: withSpare(m.Imports, spareText), Exports: withSpare(m.Exports, spareText), Body: cloneWithSpare(m.Body)}
}

func spareModuleIsIntact(m impl.Module) bool {
	return isSpareIntact(m.Imports, sameText, spareText) && isSpareIntact(m.Exports, sameText, spareText) && spareIsIntact(m.Body)
}

func unitsWithSpare(list []impl.Unit) []impl.Unit {
	result := withSpare(list, spareUnit)
	for i, u := range result {
		result[i] = unit(u.Name, scopesWithSpare(u.Globals), coresWithSpare([]impl.Core{u.Body})[0])
	}
	return result
}

func spareUnitsAreIntact(list []impl.Unit) bool {
	for _, u := range list {
		if !spareScopesAreIntact(u.Globals) || !spareCoreIsIntact(u.Body) {
			return false
		}
	}
	return isSpareIntact(list, sameUnit, spareUnit)
}

func worldWithSpare(w impl.World) impl.World {
	return impl.World{Expander: expanderWithSpare(w.Expander), Units: unitsWithSpare(w.Units), Exports: withSpare(w.Exports, spareExport)}
}

func spareWorldIsIntact(w impl.World) bool {
	return spareExpanderIsIntact(w.Expander) && spareUnitsAreIntact(w.Units) && isSpareIntact(w.Exports, sameExport, spareExport)
}

// worldMemory is what was seen of worlds and of modules.
type worldMemory struct {
	expanderMemory
	units   map[*impl.Unit]bool
	exports map[*impl.Export]bool
	texts   map[*string]bool
}

func newWorldMemory() worldMemory {
	return worldMemory{newExpanderMemory(), map[*impl.Unit]bool{}, map[*impl.Export]bool{}, map[*string]bool{}}
}

// sharesElements reports whether an element of a list, or of its spare capacity,
// was seen before; it adds all of them to those seen.
func sharesElements[T any](list []T, seen map[*T]bool) bool {
	all := list[:cap(list)]
	for i := range all {
		if seen[&all[i]] {
			return true
		}
		seen[&all[i]] = true
	}
	return false
}

func (m worldMemory) sharesUnits(list []impl.Unit) bool {
	for _, u := range list[:cap(list)] {
		if m.sharesScopes(u.Globals) || m.sharesCore(u.Body) {
			return true
		}
	}
	return sharesElements(list, m.units)
}

func (m worldMemory) sharesWorld(w impl.World) bool {
	return m.sharesExpander(w.Expander) || m.sharesUnits(w.Units) || sharesElements(w.Exports, m.exports)
}

func (m worldMemory) sharesModule(x impl.Module) bool {
	return sharesElements(x.Imports, m.texts) || sharesElements(x.Exports, m.texts) || shares(x.Body, m.data)
}

// memoryModules reach each way to end, and each kind of what a module has.
const memoryModules = `
(module r () ()) (module r () () '(1 (a b)) "s") (module r (p) (a) a) (module r (p q) (a m b) (define b '(1 2)) (m b)) (module r (p) (c) (define-syntax c (syntax-rules (l) ((_ e l) '(e (l 1)))))) (module r (p) () (begin (begin 1 2) (let-syntax () 3 '(4))))
(module r (p) () (define (f x y) (set! f x) '(x y) (m x)) (f '(1))) (module r (q p) (zz)) (module r (p) () zz) (module r (p) () (define a 1)) (module p () ()) (module r (s) ()) (module r (r) ()) (module r () () (let)) (module r () () (define)) (module r (p) () (let () (define x '(1)) (define-syntax k (syntax-rules () ((_) '(2)))) (k)))
(module r () () (define-syntax two (syntax-rules () ((_ r e) (begin (define-syntax k r) (define-syntax l r) 'e 'e)))) (two (syntax-rules (m) ((_ e m) '(e (1))) ((_) ())) (3 4)))
(module r () (k) (define-syntax one (syntax-rules () ((_ k r) (define-syntax k r)))) (one k (syntax-rules (m) ((_ e m) '(e (1))) ((_) ()))))
`

func memoryWorlds(t *testing.T) []impl.World {
	t.Helper()
	w := mustLoad(t, "(module p () (a m) (define a '(1 (2))) (define-syntax m (syntax-rules (l) ((_ e) (cons '(3 4) (lambda (x) (x e a)))) ((_ e l) (l 5)))))(module q (p) (m a) (m (m 1)) 2)")
	strange := w
	strange.Exports = append(slices.Clone(w.Exports), impl.Export{Module: "A", Kind: 9}, impl.Export{})
	bad := impl.World{Expander: impl.Expander{Bindings: []impl.Binding{{Text: "x", Kind: 9, Scopes: []int{3, 1}}}, Macros: []impl.Rules{{Patterns: []impl.Syntax{{Kind: 8, Scopes: []int{2}, Items: leaves(2)}}}}, Scope: -1}, Units: []impl.Unit{{Name: "A", Globals: []int{-1, 7}, Body: impl.Core{Kind: 99, Params: []int{1, 1}, Datum: list(number(1)), Kids: constants(2)}}, {}}, Exports: []impl.Export{{}}}
	return []impl.World{worldWithSpare(w), worldWithSpare(strange), worldWithSpare(bad), worldWithSpare(impl.World{})}
}

func memoryModuleList(t *testing.T) []impl.Module {
	t.Helper()
	var modules []impl.Module
	for _, m := range program(t, memoryModules) {
		modules = append(modules, moduleWithSpare(m))
	}
	return append(modules, moduleWithSpare(impl.Module{Name: "A", Imports: []string{"B", "B"}, Exports: []string{"", ""}, Body: []impl.Datum{{Kind: 7, Items: atoms(2)}}}), moduleWithSpare(impl.Module{Name: "r", Imports: []string{"p"}, Exports: []string{"a"}, Body: numbered(61)}))
}

func TestModulesAreNotModified(t *testing.T) {
	worlds, sameWorlds := memoryWorlds(t), memoryWorlds(t)
	modules, sameModules := memoryModuleList(t), memoryModuleList(t)
	globals := scopesWithSpare([]int{50, 51})
	for i, w := range worlds {
		for j, m := range modules {
			impl.AddModule(w, m)
			impl.IsModule(m)
			impl.FormatModule(m)
			d := cloneWithSpare([]impl.Datum{moduleDatum(m)})
			same := cloneWithSpare(d)
			impl.ParseModule(d[0])
			if !sameModule(m, sameModules[j]) || !spareModuleIsIntact(m) || !sameData(d, same) || !spareIsIntact(d) {
				t.Errorf("the module %d was modified", j)
			}
		}
		impl.IsWorld(w)
		impl.FindExport(w, "p", "a")
		impl.GlobalsOf(w.Units)
		impl.ProgramOf(w.Units)
		for _, u := range w.Units {
			impl.UnitFits(u, globals)
			impl.UnitFits(u, globals[:1])
			impl.UnitFits(u, globals[:0])
		}
		if !sameWorld(w, sameWorlds[i]) || !spareWorldIsIntact(w) || !sameInts(globals, []int{50, 51}) || !spareScopesAreIntact(globals) {
			t.Errorf("the %s was modified", showWorld(sameWorlds[i]))
		}
	}
}

func TestModulesShareNoMemory(t *testing.T) {
	worlds, modules := memoryWorlds(t), memoryModuleList(t)
	seen := newWorldMemory()
	for _, w := range worlds {
		if seen.sharesWorld(w) {
			t.Fatal("the worlds share memory")
		}
	}
	for _, m := range modules {
		if seen.sharesModule(m) {
			t.Fatal("the modules share memory")
		}
	}
	check := func(what string, shared bool) {
		t.Helper()
		if shared {
			t.Errorf("the results of %s share memory", what)
		}
	}
	codes := map[int]bool{}
	for range 2 {
		for _, w := range worlds {
			for _, m := range modules {
				after, code := impl.AddModule(w, m)
				codes[code] = true
				check("AddModule of "+describedText(moduleDatum(m)), seen.sharesWorld(after))
			}
			check("GlobalsOf", seen.sharesScopes(impl.GlobalsOf(w.Units)))
			check("GlobalsOf", seen.sharesScopes(impl.GlobalsOf(w.Units[:min(1, len(w.Units))])))
			for n := range len(w.Units) + 1 {
				c, _ := impl.ProgramOf(w.Units[:n])
				check("ProgramOf", seen.sharesCore(c))
				c, _ = impl.ProgramOf(w.Units[n:])
				check("ProgramOf", seen.sharesCore(c))
			}
		}
		for _, m := range modules {
			d := cloneWithSpare([]impl.Datum{moduleDatum(m)})
			seen.sharesDatum(list(d...))
			for range 2 {
				got, _ := impl.ParseModule(d[0])
				check("ParseModule", seen.sharesModule(got))
			}
		}
		w, _ := impl.LoadProgram("(module p () (a m) (define a '(1 2)) (define-syntax m (syntax-rules () ((_ e) '(e (1)))))) (module q (p) (a m) (m 2) (m 3))")
		check("LoadProgram", len(w.Units) != 2 || seen.sharesWorld(w))
		check("NewWorld", seen.sharesWorld(impl.NewWorld()) || seen.sharesWorld(impl.NewWorld()))
		check("LoadBase", seen.sharesExpander(impl.LoadBase()) || seen.sharesExpander(impl.LoadBase()))
	}
	for _, code := range []int{impl.ModuleOk, impl.ExpandUnbound, impl.ExpandSyntax, impl.ExpandDuplicate, impl.ExpandNoRule, impl.ExpandLarge, impl.ModuleMissing, impl.ModuleDefined, impl.ModuleExport, impl.ModuleMalformed} {
		if !codes[code] {
			t.Errorf("no module has the code %d", code)
		}
	}
}

// Where the parts of an argument are the same memory, those of a result are not.
func TestPartsOfModulesAreCopied(t *testing.T) {
	quoted := cloneWithSpare([]impl.Datum{number(1), number(2)})
	body := node(impl.CoreSequence, coresWithSpare([]impl.Core{constant(list(quoted...)), constant(number(3))})...)
	globals := scopesWithSpare([]int{1, 2})
	names := withSpare([]string{"a", "b"}, spareText)
	forms := cloneWithSpare(mustParse(t, "'(1 2) '(1 2)"))
	forms[1] = forms[0]
	w := impl.World{Expander: impl.Expander{Bindings: impl.CoreBindings(), Variable: 9}, Units: []impl.Unit{unit("a", globals[:1], body), unit("b", globals[1:], body)}}
	m := impl.Module{Name: "m", Imports: names, Exports: names, Body: append(forms, mustParse(t, "(define a 1) (define b '(1 2))")...)}
	seen := newWorldMemory()
	seen.sharesUnits(w.Units[:1])
	seen.sharesScopes(globals[1:])
	seen.sharesModule(impl.Module{Imports: names, Body: forms[:1]})
	for range 2 {
		after, code := impl.AddModule(w, m)
		if code != impl.ModuleOk || seen.sharesWorld(after) {
			t.Errorf("the results of AddModule, which has the code %d, share memory", code)
		}
		after, code = impl.AddModule(w, impl.Module{Name: "a", Imports: []string{"b"}})
		if code != impl.ModuleDefined || seen.sharesWorld(after) {
			t.Errorf("the results of AddModule, which has the code %d, share memory", code)
		}
		if c, ok := impl.ProgramOf(w.Units); !ok || seen.sharesCore(c) {
			t.Error("the results of ProgramOf share memory")
		}
		if c, ok := impl.ProgramOf([]impl.Unit{unit("a", nil, body), unit("b", nil, body)}); !ok || seen.sharesCore(c) {
			t.Error("the results of ProgramOf share memory")
		}
		if c, ok := impl.ProgramOf([]impl.Unit{unit("a", nil, body)}); !ok || seen.sharesCore(c) {
			t.Error("the results of ProgramOf share memory")
		}
		d := moduleDatum(m)
		d.Items[3] = d.Items[2]
		if got, ok := impl.ParseModule(d); !ok || seen.sharesModule(got) {
			t.Error("the results of ParseModule share memory")
		}
		for _, list := range [][]impl.Unit{w.Units, w.Units[:1], {{}, w.Units[1], {}}} {
			if seen.sharesScopes(impl.GlobalsOf(list)) {
				t.Error("the results of GlobalsOf share memory")
			}
		}
	}
}

// Any arguments: no function panics.
func TestModulesOfNothing(t *testing.T) {
	for _, w := range []impl.World{{}, {Units: []impl.Unit{{}}}, {Exports: []impl.Export{{}}}, {Expander: impl.Expander{Scope: leastInt, Variable: greatestInt}}} {
		for _, m := range []impl.Module{{}, {Name: "m"}, {Imports: []string{""}}, {Exports: []string{""}}, {Body: []impl.Datum{{}}}} {
			after, code := impl.AddModule(w, m)
			if wanted, wantedCode := describedAdd(w, m); code != wantedCode || !sameWorld(after, wanted) {
				t.Errorf("AddModule of %v to %v has the code %d", m, w, code)
			}
		}
	}
	if c, ok := impl.ProgramOf(nil); ok || !isZeroCore(c) {
		t.Error("ProgramOf of nothing is a term")
	}
	if impl.UnitFits(impl.Unit{}, nil) || impl.IsModule(impl.Module{}) || impl.FormatModule(impl.Module{}) != "" || len(impl.GlobalsOf(nil)) != 0 {
		t.Error("the zero value is valid")
	}
	if m, ok := impl.ParseModule(impl.Datum{}); ok || !sameModule(m, impl.Module{}) {
		t.Error("the empty list is a module")
	}
}
