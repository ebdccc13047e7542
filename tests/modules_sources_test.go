package tests

import (
	"fmt"
	"slices"
	"strings"
	"testing"

	"loop.example/g03220/impl"
)

// sourceNames are the names that modules of any sources define, export and
// import.
var sourceNames = strings.Fields("x y t f m a e glob tmp let if")

// sourceModule returns a module that may import those of w. It is often not
// good.
func (g *generator) sourceModule(t *testing.T, w impl.World, name string, spoiled int) impl.Module {
	t.Helper()
	m := impl.Module{Name: name}
	for _, u := range w.Units {
		if g.below(3) > 0 {
			m.Imports = append(m.Imports, u.Name)
		}
	}
	if g.below(40) == 0 {
		m.Imports = append(m.Imports, "gone")
	}
	if g.below(40) == 0 && len(w.Units) > 0 {
		m.Name = w.Units[0].Name
	}
	var b strings.Builder
	taken := importedNames(w, m)
	for range g.below(4) {
		s := sourceNames[g.below(len(sourceNames))]
		if slices.Contains(taken, s) && g.below(8) > 0 {
			continue
		}
		taken = append(taken, s)
		switch g.below(4) {
		case 0:
			b.WriteString(" (define-syntax " + s + " " + g.source('R', 3, 0) + ")")
		case 1:
			b.WriteString(" (define (" + s + " x) " + g.source('B', 2, spoiled) + ")")
		default:
			b.WriteString(" (define " + s + " " + g.source('E', 2, spoiled) + ")")
		}
		if g.below(2) == 0 && !slices.Contains(m.Exports, s) {
			m.Exports = append(m.Exports, s)
		}
	}
	for range g.below(3) {
		b.WriteString(" " + g.source('F', 2+g.below(2), spoiled))
	}
	if g.below(15) == 0 {
		b.WriteString([]string{"(let ((q 1)) (define q 2) q)", "(define-syntax again (syntax-rules () ((_) (again)))) (again)", "(car (define q 1))"}[g.below(3)])
	}
	for g.below(5) == 0 {
		if s := sourceNames[g.below(len(sourceNames))]; !slices.Contains(m.Exports, s) {
			m.Exports = append(m.Exports, s)
		}
	}
	m.Body = mustParse(t, b.String())
	return m
}

func importedNames(w impl.World, m impl.Module) []string {
	var names []string
	for _, x := range w.Exports {
		if slices.Contains(m.Imports, x.Module) {
			names = append(names, x.Text)
		}
	}
	return names
}

// Modules of any sources, good or not, are added as by the second expander.
func TestAddAnyModule(t *testing.T) {
	g := generator(227)
	base := mustLoad(t, "(module b () (x y f glob keep) (define x 1) (define y 2) (define (f e) e) (define glob 3) (define-syntax keep (syntax-rules () ((_ e) (begin (set! glob e) (cons glob e)))))) (module c () (e tmp t a m) (define e 1) (define tmp 2) (define t 3) (define a 4) (define-syntax m (syntax-rules () ((_ e) (a e)) ((_ n e) (define n e)))))")
	found := map[int]int{}
	longest := 0
	for i := range 1200 {
		w := base
		switch g.below(20) {
		case 0:
			w.Expander.Scope = impl.MaxScope - g.below(40)
		case 1:
			w.Expander.Variable = impl.MaxVariable - g.below(5)
		case 2:
			w.Expander.Steps = g.below(5)
		case 3:
			w = impl.NewWorld()
		}
		for j := range 1 + i%4 {
			var code int
			w, code = checkAdd(t, w, g.sourceModule(t, w, fmt.Sprint("m", j), []int{0, 0, 60}[i%3]))
			found[code]++
			longest = max(longest, len(w.Units))
		}
	}
	for _, code := range []int{0, 1, 2, 3, 4, 5, 6, 7, 8, impl.ModuleMissing, impl.ModuleDefined, impl.ModuleExport} {
		if found[code] < 5 {
			t.Errorf("the code %d is found %d times", code, found[code])
		}
	}
	if found[impl.ModuleOk] < 400 || longest < 5 {
		t.Errorf("only %d modules are added, at most %d to one world: %v", found[impl.ModuleOk], longest, found)
	}
}
