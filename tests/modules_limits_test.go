package tests

import (
	"fmt"
	"slices"
	"strings"
	"testing"

	"loop.example/g03220/impl"
)

// numbered returns the forms of a body: this many ones.
func numbered(n int) []impl.Datum {
	result := make([]impl.Datum, n)
	for i := range result {
		result[i] = number(1)
	}
	return result
}

// definitions returns this many definitions of variables, with names that begin
// with prefix.
func definitions(t *testing.T, prefix string, n int) []impl.Datum {
	t.Helper()
	var b strings.Builder
	for i := range n {
		fmt.Fprintf(&b, "(define %s%d 1)", prefix, i)
	}
	return mustParse(t, b.String())
}

// okOr returns ModuleOk if it is good, and a code otherwise.
func okOr(good bool, code int) int {
	if good {
		return impl.ModuleOk
	}
	return code
}

func TestModuleKids(t *testing.T) {
	for _, n := range []int{1, 2, 59, 60, 61, 62, 500} {
		want := okOr(n <= 60, impl.ExpandLarge)
		exported := impl.ModuleExport
		if n > 60 {
			exported = impl.ExpandLarge
		}
		for _, c := range []struct {
			m    impl.Module
			code int
		}{
			{impl.Module{Name: "m", Body: numbered(n)}, want}, {impl.Module{Name: "m", Exports: []string{"let"}, Body: numbered(n)}, want}, {impl.Module{Name: "m", Exports: []string{"zz"}, Body: numbered(n)}, impl.ModuleExport}, {impl.Module{Name: "m", Body: append(numbered(n), symbol("zz"))}, impl.ExpandUnbound},
			{impl.Module{Name: "m", Body: append(numbered(n-1), mustParseOne(t, "(define a 1)"))}, want}, {impl.Module{Name: "m", Body: []impl.Datum{list(append([]impl.Datum{symbol("begin")}, numbered(n)...)...)}}, want},
			// A body within is too large before the exports are met.
			{impl.Module{Name: "m", Exports: []string{"zz"}, Body: []impl.Datum{list(append([]impl.Datum{symbol("reset")}, numbered(n)...)...)}}, exported},
			{impl.Module{Name: "m", Body: append([]impl.Datum{list(append([]impl.Datum{symbol("let-syntax"), list()}, numbered(max(1, n/2))...)...)}, numbered(n-max(1, n/2))...)}, want},
		} {
			if _, code := checkAdd(t, impl.NewWorld(), c.m); code != c.code {
				t.Errorf("a module with %d kids, the exports %v and the last form %s has the code %d, not %d", n, c.m.Exports, show(c.m.Body[len(c.m.Body)-1]), code, c.code)
			}
		}
	}
	// The units together have at most MaxKids.
	w := impl.NewWorld()
	for i, n := range []int{20, 1, 0, 38} {
		var code int
		if w, code = checkAdd(t, w, impl.Module{Name: fmt.Sprint("m", i), Body: numbered(n)}); code != impl.ModuleOk {
			t.Fatalf("the module %d has the code %d", i, code)
		}
	}
	for _, m := range []impl.Module{{Name: "n"}, {Name: "n", Body: numbered(1)}, {Name: "n", Body: numbered(2)}} {
		if _, code := checkAdd(t, w, m); code != impl.ExpandLarge {
			t.Errorf("a module with %d forms too many has the code %d", len(m.Body), code)
		}
	}
	if _, code := checkAdd(t, w, impl.Module{Name: "n", Exports: []string{"zz"}}); code != impl.ModuleExport {
		t.Errorf("a bad export in a module too many has the code %d", code)
	}
}

func TestTooManyModules(t *testing.T) {
	w := impl.NewWorld()
	for i := range 14 {
		m := impl.Module{Name: fmt.Sprint("m", i), Imports: unitNames(w.Units)}
		if len(m.Imports) > 12 {
			m.Imports = m.Imports[:12]
		}
		after, code := checkAdd(t, w, m)
		if want := okOr(i < 12, impl.ExpandLarge); code != want {
			t.Errorf("the module %d has the code %d", i, code)
		}
		w = after
	}
	if len(w.Units) != 12 {
		t.Errorf("there are %d units", len(w.Units))
	}
	for _, c := range []struct {
		m    impl.Module
		code int
	}{{impl.Module{Name: "m3"}, impl.ModuleDefined}, {impl.Module{Name: "n", Imports: []string{"o"}}, impl.ModuleMissing}, {impl.Module{Name: "n", Body: mustParse(t, "zz")}, impl.ExpandUnbound}, {impl.Module{Name: "n", Exports: []string{"car"}}, impl.ModuleExport}, {impl.Module{Name: "n"}, impl.ExpandLarge}} {
		if _, code := checkAdd(t, w, c.m); code != c.code {
			t.Errorf("the 13th module has the code %d, not %d", code, c.code)
		}
	}
}

func TestTooManyGlobals(t *testing.T) {
	for _, n := range []int{59, 60, 61} {
		want := okOr(n <= 60, impl.ExpandLarge)
		if _, code := checkAdd(t, impl.NewWorld(), impl.Module{Name: "m", Body: definitions(t, "a", n)}); code != want {
			t.Errorf("a module with %d globals has the code %d", n, code)
		}
		// Exports, and imports of them.
		w, code := addAll(t, impl.Module{Name: "m", Exports: namesFor(30), Body: definitions(t, "s", 30)}, impl.Module{Name: "n", Imports: []string{"m"}, Exports: []string{"s29", "t5", "s0"}, Body: definitions(t, "t", n-30)})
		if code != want || code == impl.ModuleOk && (len(w.Exports) != 33 || len(impl.GlobalsOf(w.Units)) != n) {
			t.Errorf("modules with %d globals have the code %d", n, code)
		}
	}
}

// wrapDefinition is a macro that makes terms that are deeper than data: one reset
// for each item.
const wrapDefinition = "(define-syntax resets (syntax-rules () ((_ e) e) ((_ e a m ...) (reset (resets e m ...)))))"

func TestModuleDepth(t *testing.T) {
	for _, c := range []struct{ resets, code int }{{0, impl.ModuleOk}, {1, impl.ModuleOk}, {147, impl.ModuleOk}, {148, impl.ModuleOk}, {149, impl.ExpandLarge}, {150, impl.ExpandLarge}, {199, impl.ExpandLarge}, {200, impl.ExpandFuel}} {
		deep := "(resets car" + strings.Repeat(" 1", c.resets) + ")"
		w, code := checkAdd(t, impl.NewWorld(), impl.Module{Name: "m", Body: mustParse(t, wrapDefinition+deep)})
		if code != c.code || code == impl.ModuleOk && impl.DepthOfCore(w.Units[0].Body) != c.resets+1 {
			t.Errorf("a module of depth %d has the code %d", c.resets+1, code)
		}
		// As a definition or behind another form, the body is deeper by one node.
		want := c.code
		if c.resets == 148 {
			want = impl.ExpandLarge
		}
		for _, forms := range []string{"(define a " + deep + ")", deep + "1"} {
			if _, code := checkAdd(t, impl.NewWorld(), impl.Module{Name: "m", Body: mustParse(t, wrapDefinition+forms)}); code != want {
				t.Errorf("a module of depth %d has the code %d", c.resets+2, code)
			}
		}
		if _, code := checkAdd(t, impl.NewWorld(), impl.Module{Name: "m", Exports: []string{"car"}, Body: mustParse(t, wrapDefinition+deep)}); code != impl.ModuleExport && c.resets < 200 {
			t.Errorf("a module of depth %d with a bad export has the code %d", c.resets+1, code)
		}
	}
}

// treeModule has a body of this many nodes.
func treeModule(name string, nodes int) impl.Module {
	return impl.Module{Name: name, Body: []impl.Datum{impl.SwapSymbols(impl.DatumOf(tree(nodes)), "glob", "car")}}
}

// The bodies of all units have MaxCore nodes together with the one around them.
func TestModuleNodes(t *testing.T) {
	w := impl.NewWorld()
	for i := range 5 {
		w, _ = checkAdd(t, w, treeModule(fmt.Sprint("m", i), 500))
	}
	for _, nodes := range []int{1, 498, 499, 500, 501, 590} {
		want := okOr(nodes <= 499, impl.ExpandLarge)
		after, code := checkAdd(t, w, treeModule("n", nodes))
		if code != want || code == impl.ModuleOk && impl.SizeOfCore(after.Units[5].Body) != nodes {
			t.Errorf("units of %d nodes have the code %d", 2500+nodes, code)
		}
	}
	m := treeModule("n", 500)
	m.Exports = []string{"if"}
	if _, code := checkAdd(t, w, m); code != impl.ModuleExport {
		t.Errorf("a module of too many nodes with a bad export has the code %d", code)
	}
}

// Where the scopes, variables, macros or bindings of the world end.
func TestModuleNearLastScope(t *testing.T) {
	w := mustLoad(t, "(module p () (a m) (define a 1) (define-syntax m (syntax-rules () ((_ e) e))))")
	for _, c := range []struct {
		forms string
		last  int
	}{{"", 99996}, {"1 2", 99996}, {"(define b 1)", 99996}, {"a", 99996}, {"(begin (begin))", 99996}, {"(m 1)", 99993}, {"(m (begin))", 99993}, {"(lambda (x) x)", 99990}, {"(reset 1)", 99993}, {"(define (f) 1)", 99990}} {
		for scope := 99980; scope <= 99999; scope++ {
			w.Expander.Scope = scope
			for _, imports := range [][]string{nil, {"p"}} {
				if imports == nil && strings.ContainsAny(c.forms, "am") {
					continue
				}
				_, code := checkAdd(t, w, impl.Module{Name: "n", Imports: imports, Body: mustParse(t, c.forms)})
				if want := okOr(scope <= c.last, impl.ExpandLarge); code != want {
					t.Errorf("the module %s behind the scope %d has the code %d", c.forms, scope, code)
				}
			}
		}
	}
	w.Expander.Scope = 99997
	for _, m := range []impl.Module{{Name: "n", Exports: []string{"zz"}}, {Name: "n", Imports: []string{"p"}, Body: mustParse(t, "(define)")}} {
		if _, code := checkAdd(t, w, m); code != impl.ExpandLarge {
			t.Errorf("a module without a scope has the code %d", code)
		}
	}
}

func TestModuleNearLimits(t *testing.T) {
	small := mustLoad(t, "(module p () (a m b) (define a 1) (define b 2) (define-syntax m (syntax-rules () ((_ e) e)))) (module q (p) (m b a)) (module o () (a) (define a 3))")
	// With this many bindings, in which those of the core and of p, q and o are.
	with := func(bindings int) impl.World {
		w := small
		w.Expander.Variable = 99000
		w.Expander.Bindings = slices.Concat(small.Expander.Bindings, manyBindings(bindings-len(small.Expander.Bindings)))
		return w
	}
	for _, c := range []struct {
		bindings int
		imports  string
		forms    string
		code     int
	}{
		{1000, "", "", impl.ModuleOk}, {1000, "p", "", impl.ExpandLarge}, {999, "p", "", impl.ExpandLarge}, {998, "p", "", impl.ExpandLarge}, {997, "p", "", impl.ModuleOk}, {997, "p", "(m a)", impl.ModuleOk}, {997, "p", "(define z 1)", impl.ExpandLarge}, {996, "p", "(define z 1)", impl.ModuleOk},
		// What is there already needs no binding, and what differs is met before the limit.
		{997, "p q", "", impl.ModuleOk}, {997, "q p", "b", impl.ModuleOk}, {996, "p q", "(define z 1)", impl.ModuleOk}, {997, "p o", "", impl.ExpandDuplicate}, {997, "p q o", "", impl.ExpandDuplicate}, {998, "o p", "", impl.ExpandDuplicate}, {999, "o p", "", impl.ExpandDuplicate}, {1000, "o p", "", impl.ExpandLarge}, {997, "o q", "", impl.ExpandDuplicate}, {998, "o q", "", impl.ExpandLarge}, {996, "o q", "", impl.ExpandDuplicate},
		{1000, "", "(define z 1)", impl.ExpandLarge}, {999, "", "(define z 1)", impl.ModuleOk}, {999, "", "(define z 1) (define z 2)", impl.ExpandDuplicate}, {999, "", "(define z 1) (define y 2)", impl.ExpandLarge}, {1000, "", "1 2", impl.ModuleOk}, {1000, "", "(lambda () 1)", impl.ModuleOk}, {1000, "", "(lambda (x) 1)", impl.ExpandLarge},
	} {
		m := impl.Module{Name: "n", Imports: strings.Fields(c.imports), Body: mustParse(t, c.forms)}
		if _, code := checkAdd(t, with(c.bindings), m); code != c.code {
			t.Errorf("with %d bindings, a module that imports %q with the forms %s has the code %d, not %d", c.bindings, c.imports, c.forms, code, c.code)
		}
	}
	w := small
	for _, c := range []struct {
		variable int
		forms    string
		code     int
	}{{99999, "", impl.ModuleOk}, {99999, "a b", impl.ModuleOk}, {99999, "(define z 1)", impl.ExpandLarge}, {99998, "(define z 1)", impl.ModuleOk}, {99998, "(define z 1) (define z 1)", impl.ExpandLarge}, {99997, "(define z 1) (define z 1)", impl.ExpandDuplicate}, {99999, "(define a 1)", impl.ExpandLarge}, {99998, "(define a 1)", impl.ExpandDuplicate}} {
		w.Expander.Variable = c.variable
		if _, code := checkAdd(t, w, impl.Module{Name: "n", Imports: []string{"p"}, Body: mustParse(t, c.forms)}); code != c.code {
			t.Errorf("behind the variable %d, the forms %s have the code %d, not %d", c.variable, c.forms, code, c.code)
		}
	}
	w = small
	w.Expander.Macros = slices.Concat(w.Expander.Macros, manyMacros(t, 200-len(w.Expander.Macros)))
	rules := "(syntax-rules () ((_) 1))"
	for _, c := range []struct {
		macros int
		forms  string
		code   int
	}{{200, "", impl.ModuleOk}, {200, "(m 1)", impl.ModuleOk}, {200, "(define-syntax k " + rules + ")", impl.ExpandLarge}, {199, "(define-syntax k " + rules + ")", impl.ModuleOk}, {200, "(define-syntax m " + rules + ")", impl.ExpandLarge}, {199, "(define-syntax m " + rules + ")", impl.ExpandDuplicate}} {
		x := w
		x.Expander.Macros = w.Expander.Macros[:c.macros:c.macros]
		if _, code := checkAdd(t, x, impl.Module{Name: "n", Imports: []string{"p"}, Body: mustParse(t, c.forms)}); code != c.code {
			t.Errorf("with %d macros, the forms %s have the code %d, not %d", c.macros, c.forms, code, c.code)
		}
	}
}

// An expander may bind names that no module defines. A module sees those without
// scopes, but a variable among them is no global of a unit.
func TestOtherBindingsOfWorlds(t *testing.T) {
	w := impl.World{Expander: usualExpander(t)}
	w.Expander.Bindings = append(slices.Clone(w.Expander.Bindings), variable(0, "seen", 1), binding(impl.BindingMacro, 9, "kept", 1, 4), variable(1, "other", 4), binding(impl.BindingForm, 2, "my-if"), binding(impl.BindingPrimitive, 6, "my-car"))
	w.Expander.Scope = 5
	for _, c := range []struct {
		source string
		code   int
	}{
		{"(module m () () 1)", impl.ModuleOk}, {"(module m () () glob)", impl.ExpandLarge}, {"(module m () () (lambda () glob))", impl.ExpandLarge}, {"(module m () () (set! glob 1))", impl.ExpandLarge}, {"(module m () () (keep 1))", impl.ExpandLarge}, {"(module m () () (quote glob))", impl.ModuleOk}, {"(module m () () (define glob 1) glob)", impl.ModuleOk}, {"(module m () () (define glob 1) (keep glob))", impl.ExpandLarge},
		{"(module m () () seen)", impl.ExpandUnbound}, {"(module m () () (kept 1))", impl.ExpandUnbound}, {"(module m () () other)", impl.ExpandUnbound}, {"(module m () (seen))", impl.ModuleExport}, {"(module m () (kept))", impl.ModuleExport}, {"(module m () () (my-if 1 2 3) (my-car 1))", impl.ModuleOk}, {"(module m () (my-if))", impl.ModuleExport}, {"(module m () (my-car))", impl.ModuleExport},
		{"(module m () (keep))", impl.ModuleOk}, {"(module m () (glob) glob)", impl.ExpandLarge},
	} {
		if _, code := checkAdd(t, w, mustReadModule(t, c.source)); code != c.code {
			t.Errorf("AddModule of %s has the code %d, not %d", c.source, code, c.code)
		}
	}
	// The export of such a variable is one, as it resolves to a variable; the world
	// with it is not valid.
	after, code := checkAdd(t, w, mustReadModule(t, "(module m () (glob))"))
	if code != impl.ModuleOk || len(after.Exports) != 1 || after.Exports[0] != variableExport("m", "glob", 1) || impl.IsWorld(after) {
		t.Errorf("the export of a variable that is no global has the code %d and the %s", code, showWorld(after))
	}
	if _, code := checkAdd(t, after, impl.Module{Name: "n"}); code != impl.ModuleMalformed {
		t.Errorf("AddModule to a world that is not valid has the code %d", code)
	}
}
