package tests

import (
	"fmt"
	"maps"
	"slices"
	"strings"
	"testing"

	"loop.example/g03220/impl"
)

// baseModule defines what plans call glob and keep; all planned modules import
// it.
const baseModule = "(module base () (glob keep) (define glob 1) (define-syntax keep (syntax-rules () ((_ e) (begin (set! glob e) (cons glob e))))))"

// A modulePlan is a module of which it is known what each name stands for. What
// it imports are other plans, and an export is a name of its own or one that it
// imports.
type modulePlan struct {
	imports []*modulePlan
	exports []int
	parts   []modulePart
	named   string
}

// A modulePart is a macro with its own name and that of its hole, a variable
// with its name, or an expression.
type modulePart struct {
	names []int
	value *plan
}

func (p modulePart) isMacro() bool { return len(p.names) == 2 }

func (m *modulePlan) own() []int {
	var names []int
	for _, part := range m.parts {
		if len(part.names) > 0 {
			names = append(names, part.names[0])
		}
	}
	return names
}

// visible returns the names that the module defines or imports.
func (m *modulePlan) visible() []int {
	names := m.own()
	for _, other := range m.imports {
		names = append(names, other.exports...)
	}
	return names
}

func (m *modulePlan) values() []*plan {
	var values []*plan
	for _, part := range m.parts {
		values = append(values, part.value)
	}
	return values
}

func (m *modulePlan) text(texts map[int]string) string {
	imports, exports := []string{"base"}, []string{}
	for _, other := range m.imports {
		imports = append(imports, other.named)
	}
	for _, name := range m.exports {
		exports = append(exports, texts[name])
	}
	var b strings.Builder
	fmt.Fprintf(&b, "(module %s (%s) (%s)", m.named, strings.Join(imports, " "), strings.Join(exports, " "))
	for _, part := range m.parts {
		value := part.value.text(texts)
		switch {
		case part.isMacro():
			fmt.Fprintf(&b, " (define-syntax %s (syntax-rules () ((_ %s) %s)))", texts[part.names[0]], texts[part.names[1]], value)
		case len(part.names) == 1:
			fmt.Fprintf(&b, " (define %s %s)", texts[part.names[0]], value)
		default:
			b.WriteString(" " + value)
		}
	}
	return b.String() + ")"
}

// modulePlans returns plans of a program; macros tells which names are macros.
func (m *planMaker) modulePlans(count, depth int) []*modulePlan {
	var plans []*modulePlan
	macros := map[int]bool{}
	for i := range count {
		p := &modulePlan{named: fmt.Sprint("m", i)}
		for _, other := range plans {
			if m.below(3) > 0 {
				p.imports = append(p.imports, other)
			}
		}
		variables := m.fresh(m.below(3))
		var s planScope
		for _, name := range p.visible() {
			if macros[name] {
				s = s.withMacro(name)
			} else {
				s = s.withVariables(name)
			}
		}
		s = s.withVariables(variables...)
		for range m.below(3) {
			names := m.fresh(2)
			p.parts = append(p.parts, modulePart{names, m.make(depth, s.withHole(names[1]))})
			macros[names[0]] = true
			s = s.withMacro(names[0])
		}
		for _, name := range variables {
			p.parts = append(p.parts, modulePart{[]int{name}, m.make(depth, s)})
		}
		for range m.below(3) {
			p.parts = append(p.parts, modulePart{nil, m.make(depth, s)})
		}
		for _, name := range p.visible() {
			if m.below(2) == 0 && !slices.Contains(p.exports, name) {
				p.exports = append(p.exports, name)
			}
		}
		plans = append(plans, p)
	}
	return plans
}

// programTerm makes the term of the program of base and of these plans.
func programTerm(plans []*modulePlan, texts map[int]string) impl.Core {
	k := planner{last: 1, texts: texts}
	globals, bodies := []int{1}, []impl.Core{assignment(1, constant(number(1)))}
	meaningsOf := map[*modulePlan]meanings{}
	for _, p := range plans {
		here := meanings{}
		for _, other := range p.imports {
			for _, name := range other.exports {
				here[name] = meaningsOf[other][name]
			}
		}
		meaningsOf[p] = here
		for _, part := range p.parts {
			switch {
			case part.isMacro():
				here[part.names[0]] = plannedMacro{part.value, part.names[1], here}
			case len(part.names) == 1:
				here[part.names[0]] = k.fresh()
				globals = append(globals, k.last)
			}
		}
		var terms []impl.Core
		for _, part := range p.parts {
			switch {
			case part.isMacro():
			case len(part.names) == 1:
				terms = append(terms, assignment(here[part.names[0]].(int), k.term(part.value, here)))
			default:
				terms = append(terms, k.term(part.value, here))
			}
		}
		if len(terms) == 0 {
			terms = []impl.Core{constant(list())}
		}
		bodies = append(bodies, sequence(terms...))
	}
	return binder(impl.CoreLocal, globals, bodies...)
}

// chooseModules chooses the texts of all names of plans. A name of a module is
// that of all modules in which it is visible.
func (n *planNamer) chooseModules(plans []*modulePlan) {
	for _, p := range plans {
		for _, name := range p.own() {
			taken := []string{"glob", "keep"}
			region := []*plan{{kind: "define"}, {kind: "define-syntax"}, {kind: "syntax-rules"}}
			for _, other := range plans {
				if slices.Contains(other.visible(), name) {
					region = append(region, other.values()...)
					for _, beside := range other.visible() {
						taken = append(taken, n.texts[beside])
					}
				}
			}
			n.choose([]int{name}, region, taken)
		}
	}
	for _, p := range plans {
		for _, part := range p.parts {
			if part.isMacro() {
				n.choose(part.names[1:], []*plan{part.value}, nil)
				hole := []string{n.texts[part.names[1]]}
				n.chooseAll(part.value, hole, hole)
			} else {
				n.chooseAll(part.value, nil, nil)
			}
		}
	}
}

// A plannedProgram has the texts of the modules of a program, and its term.
type plannedProgram struct {
	sources []string
	term    impl.Core
}

// plannedPrograms calls f with programs: each plan first with names of its own,
// then with texts that could be confused.
func plannedPrograms(seed, count, rounds int, f func(p plannedProgram)) {
	g := generator(seed)
	for i := range count {
		m := planMaker{generator: &g}
		plans := m.modulePlans(2+i%3, 1+i%4)
		for round := range rounds {
			n := planNamer{&g, plainTexts(m.last)}
			if round > 0 {
				n.texts = map[int]string{}
				n.chooseModules(plans)
			}
			p := plannedProgram{[]string{baseModule}, programTerm(plans, n.texts)}
			for _, m := range plans {
				p.sources = append(p.sources, m.text(maps.Clone(n.texts)))
			}
			f(p)
		}
	}
}

// loadSources adds modules one by one, which may have more nodes together than
// the data of one text. It returns false if one of them is no valid module, or
// too much for an expansion.
func loadSources(t *testing.T, sources []string) (impl.World, bool) {
	t.Helper()
	w := impl.NewWorld()
	for _, source := range sources {
		data, ok := impl.ParseData(source)
		if !ok {
			return w, false
		}
		m, ok := impl.ParseModule(data[0])
		if !ok {
			return w, false
		}
		var code int
		if w, code = impl.AddModule(w, m); code == impl.ExpandFuel || code == impl.ExpandLarge {
			return w, false
		}
		if code != impl.ModuleOk {
			t.Fatalf("%s in %s has the code %d", source, strings.Join(sources, "\n"), code)
		}
	}
	return w, true
}
