package tests

import (
	"fmt"
	"maps"
	"slices"
	"strings"

	"loop.example/g03220/impl"
)

// A plan is a source of which it is known what each name stands for: the names
// are numbers, for which any texts may be chosen that the source itself does
// not confuse. Of a plan, the term is known without macros and scopes.
type plan struct {
	kind   string
	names  []int // the names that it binds, or the one that it uses
	kids   []*plan
	number int
}

// planWords are the words that are written for a kind of plan, if these are not
// the kind alone.
var planWords = map[string]string{
	"number": "", "use": "", "hole": "", "macro use": "", "call": "", "primitive": "", "quoted": "quote", "global": "glob", "cond": "cond else",
	"block": "let define", "local macro": "let-syntax syntax-rules", "defined macro": "let define-syntax syntax-rules define",
}

// wordsOf returns the words that are written in a plan, with the texts of the
// names that have one.
func (p *plan) wordsOf(texts map[int]string) []string {
	words := strings.Fields(p.kind)
	if other, ok := planWords[p.kind]; ok {
		words = strings.Fields(other)
	}
	if p.kind == "primitive" {
		words = []string{primitiveWords[p.number]}
	}
	for _, name := range p.names {
		words = append(words, texts[name])
	}
	for _, kid := range p.kids {
		words = append(words, kid.wordsOf(texts)...)
	}
	return words
}

// text writes a plan.
func (p *plan) text(texts map[int]string) string {
	var names, kids []string
	for _, name := range p.names {
		names = append(names, texts[name])
	}
	for _, kid := range p.kids {
		kids = append(kids, kid.text(texts))
	}
	all := strings.Join(kids, " ")
	switch p.kind {
	case "number":
		return fmt.Sprint(p.number)
	case "use", "hole":
		return names[0]
	case "quoted":
		return "(quote " + names[0] + ")"
	case "global":
		return "glob"
	case "primitive":
		return "(" + primitiveWords[p.number] + " " + all + ")"
	case "call":
		return "(" + all + ")"
	case "macro use":
		return "(" + names[0] + " " + all + ")"
	case "lambda", "local":
		return "(" + p.kind + " (" + strings.Join(names, " ") + ") " + all + ")"
	case "let", "let*", "letrec":
		return "(" + p.kind + " (" + pairs("", names, kids) + ") " + kids[len(names)] + ")"
	case "block":
		return "(let () " + pairs("define ", names, kids) + kids[len(names)] + ")"
	case "set!", "shift", "swap!":
		return "(" + p.kind + " " + strings.Join(append(names, kids...), " ") + ")"
	case "cond":
		return condText(kids)
	case "local macro":
		return "(let-syntax ((" + names[0] + " (syntax-rules () ((_ " + names[1] + ") " + kids[0] + ")))) " + kids[1] + ")"
	case "defined macro":
		return "(let () (define-syntax " + names[0] + " (syntax-rules () ((_ " + names[1] + ") " + kids[0] + "))) (define " + names[2] + " " + kids[1] + ") " + kids[2] + ")"
	}
	return "(" + p.kind + " " + all + ")"
}

func pairs(word string, names, kids []string) string {
	var b strings.Builder
	for i, name := range names {
		b.WriteString("(" + word + name + " " + kids[i] + ") ")
	}
	return b.String()
}

func condText(kids []string) string {
	last := len(kids) - 1
	return "(cond " + pairs("", kids[:last/2], kids[last/2:]) + "(else " + kids[last] + "))"
}

// A planned name means a variable, a macro with what its template means, or
// the argument of a macro with what this means.
type meanings map[int]any

type plannedMacro struct {
	template *plan
	hole     int
	around   meanings
}

type plannedHole struct {
	argument *plan
	around   meanings
}

// A planner makes the term of a plan; each binder gets a variable of its own,
// also where a part of a source is repeated.
type planner struct {
	last  int
	texts map[int]string
}

func (m *planner) fresh() int {
	m.last++
	return m.last
}

// with returns the meanings within a binder of these names, and its variables.
func (m *planner) with(around meanings, names []int) (meanings, []int) {
	inner := maps.Clone(around)
	variables := make([]int, len(names))
	for i, name := range names {
		variables[i] = m.fresh()
		inner[name] = variables[i]
	}
	return inner, variables
}

func (m *planner) terms(kids []*plan, around meanings) []impl.Core {
	result := make([]impl.Core, len(kids))
	for i, kid := range kids {
		result[i] = m.term(kid, around)
	}
	return result
}

func sequence(terms ...impl.Core) impl.Core {
	var kids []impl.Core
	for _, c := range terms {
		if c.Kind == impl.CoreSequence {
			kids = append(kids, c.Kids...)
		} else {
			kids = append(kids, c)
		}
	}
	if len(kids) == 1 {
		return kids[0]
	}
	return node(impl.CoreSequence, kids...)
}

func falseTerm() impl.Core { return constant(boolean(0)) }

func procedure(params []int, body impl.Core) impl.Core {
	return binder(impl.CoreLambda, params, body)
}

func called(kids ...impl.Core) impl.Core { return node(impl.CoreApply, kids...) }

func (m *planner) term(p *plan, around meanings) impl.Core {
	switch p.kind {
	case "number":
		return constant(number(p.number))
	case "use":
		return useOf(around[p.names[0]].(int))
	case "quoted":
		return constant(symbol(m.texts[p.names[0]]))
	case "global":
		return useOf(1)
	case "primitive":
		return called(append([]impl.Core{primitive(p.number)}, m.terms(p.kids, around)...)...)
	case "call":
		return called(m.terms(p.kids, around)...)
	case "if":
		return node(impl.CoreIf, m.terms(p.kids, around)...)
	case "begin":
		return sequence(m.terms(p.kids, around)...)
	case "set!":
		return assignment(around[p.names[0]].(int), m.term(p.kids[0], around))
	case "reset":
		return node(impl.CoreReset, m.term(p.kids[0], around))
	case "lambda", "shift", "local":
		inner, variables := m.with(around, p.names)
		kind := map[string]int{"lambda": impl.CoreLambda, "shift": impl.CoreShift, "local": impl.CoreLocal}[p.kind]
		return binder(kind, variables, m.terms(p.kids, inner)...)
	}
	if strings.Contains(p.kind, "macro") || p.kind == "hole" {
		return m.macroTerm(p, around)
	}
	return m.usualTerm(p, around)
}

// usualTerm makes the terms of the usual macros.
func (m *planner) usualTerm(p *plan, around meanings) impl.Core {
	count := len(p.names)
	switch p.kind {
	case "let":
		inits := m.terms(p.kids[:count], around)
		inner, variables := m.with(around, p.names)
		return called(append([]impl.Core{procedure(variables, m.term(p.kids[count], inner))}, inits...)...)
	case "let*":
		if count == 0 {
			return called(procedure(nil, m.term(p.kids[0], around)))
		}
		init := m.term(p.kids[0], around)
		inner, variables := m.with(around, p.names[:1])
		return called(procedure(variables, m.term(&plan{kind: "let*", names: p.names[1:], kids: p.kids[1:]}, inner)), init)
	case "letrec", "block":
		inner, variables := m.with(around, p.names)
		kids := make([]impl.Core, count)
		for i, variable := range variables {
			kids[i] = assignment(variable, m.term(p.kids[i], inner))
		}
		body := m.term(p.kids[count], inner)
		if p.kind == "letrec" {
			body = called(procedure(nil, body))
		}
		return called(procedure(nil, binder(impl.CoreLocal, variables, append(kids, body)...)))
	case "and":
		if len(p.kids) == 1 {
			return m.term(p.kids[0], around)
		}
		return node(impl.CoreIf, m.term(p.kids[0], around), m.term(&plan{kind: "and", kids: p.kids[1:]}, around), falseTerm())
	case "or":
		if len(p.kids) == 1 {
			return m.term(p.kids[0], around)
		}
		variable := m.fresh()
		rest := m.term(&plan{kind: "or", kids: p.kids[1:]}, around)
		return called(procedure([]int{variable}, node(impl.CoreIf, useOf(variable), useOf(variable), rest)), m.term(p.kids[0], around))
	case "when":
		return node(impl.CoreIf, m.term(p.kids[0], around), sequence(m.terms(p.kids[1:], around)...), falseTerm())
	case "cond":
		return m.condTerm(p.kids, around)
	case "while":
		loop := m.fresh()
		again := called(useOf(loop))
		round := node(impl.CoreIf, m.term(p.kids[0], around), sequence(append(m.terms(p.kids[1:], around), again)...), falseTerm())
		return called(procedure(nil, binder(impl.CoreLocal, []int{loop}, assignment(loop, procedure(nil, round)), again)))
	case "swap!":
		a, b, other := around[p.names[0]].(int), around[p.names[1]].(int), m.fresh()
		return called(procedure([]int{other}, node(impl.CoreSequence, assignment(a, useOf(b)), assignment(b, useOf(other)))), useOf(a))
	}
	// What remains is keep.
	return sequence(assignment(1, m.term(p.kids[0], around)), called(primitive(slices.Index(primitiveWords, "cons")), useOf(1), m.term(p.kids[0], around)))
}

func (m *planner) condTerm(kids []*plan, around meanings) impl.Core {
	last := len(kids) - 1
	c := m.term(kids[last], around)
	for i := last/2 - 1; i >= 0; i-- {
		c = node(impl.CoreIf, m.term(kids[i], around), m.term(kids[last/2+i], around), c)
	}
	return c
}

// macroTerm makes the terms of macros of the source, and of their parts.
func (m *planner) macroTerm(p *plan, around meanings) impl.Core {
	switch p.kind {
	case "hole":
		hole := around[p.names[0]].(plannedHole)
		return m.term(hole.argument, hole.around)
	case "macro use":
		macro := around[p.names[0]].(plannedMacro)
		inner := maps.Clone(macro.around)
		inner[macro.hole] = plannedHole{p.kids[0], around}
		return m.term(macro.template, inner)
	case "local macro":
		inner := maps.Clone(around)
		inner[p.names[0]] = plannedMacro{p.kids[0], p.names[1], around}
		return m.term(p.kids[1], inner)
	}
	inner, variables := m.with(around, p.names[2:])
	inner[p.names[0]] = plannedMacro{p.kids[0], p.names[1], maps.Clone(inner)}
	return called(procedure(nil, binder(impl.CoreLocal, variables, assignment(variables[0], m.term(p.kids[1], inner)), m.term(p.kids[2], inner))))
}

// A planMaker makes plans.
type planMaker struct {
	*generator
	last int
}

// A planScope has the names that a source may use.
type planScope struct{ variables, macros, holes []int }

func (s planScope) withVariables(names ...int) planScope {
	s.variables = append(s.variables[:len(s.variables):len(s.variables)], names...)
	return s
}

func (s planScope) withMacro(name int) planScope {
	s.macros = append(s.macros[:len(s.macros):len(s.macros)], name)
	return s
}

func (s planScope) withHole(name int) planScope {
	s.holes = append(s.holes[:len(s.holes):len(s.holes)], name)
	return s
}

func (m *planMaker) fresh(count int) []int {
	names := from(m.last+1, count)
	m.last += count
	return names
}

func (m *planMaker) kids(count, depth int, s planScope) []*plan {
	kids := make([]*plan, count)
	for i := range kids {
		kids[i] = m.make(depth-1, s)
	}
	return kids
}

func pick(g *generator, names []int) []int { return []int{names[g.below(len(names))]} }

func (m *planMaker) atom(s planScope) *plan {
	switch n := m.below(8); {
	case n < 2 && len(s.holes) > 0:
		return &plan{kind: "hole", names: pick(m.generator, s.holes)}
	case n < 6 && len(s.variables) > 0:
		return &plan{kind: "use", names: pick(m.generator, s.variables)}
	case n == 6 && len(s.variables) > 0:
		return &plan{kind: "quoted", names: pick(m.generator, s.variables)}
	case n == 7:
		return &plan{kind: "global"}
	}
	return &plan{kind: "number", number: m.below(10)}
}

func (m *planMaker) make(depth int, s planScope) *plan {
	if depth <= 0 {
		return m.atom(s)
	}
	kinds := strings.Fields("atom primitive call lambda let let* letrec block and or or when cond while set! swap! begin if reset shift local keep local-macro local-macro defined-macro macro-use macro-use macro-use")
	switch kind := kinds[m.below(len(kinds))]; kind {
	case "primitive":
		return &plan{kind: kind, number: m.below(14), kids: m.kids(1+m.below(2), depth, s)}
	case "call", "or", "and":
		return &plan{kind: kind, kids: m.kids(1+m.below(3), depth, s)}
	case "when", "while", "begin":
		return &plan{kind: kind, kids: m.kids(2+m.below(2), depth, s)}
	case "if", "cond":
		return &plan{kind: kind, kids: m.kids(3, depth, s)}
	case "reset", "keep":
		return &plan{kind: kind, kids: m.kids(1, depth, s)}
	case "lambda", "local", "shift":
		names := m.fresh(1 + m.below(2))
		if kind == "shift" {
			names = names[:1]
		}
		return &plan{kind: kind, names: names, kids: m.kids(1, depth, s.withVariables(names...))}
	case "let", "let*", "letrec", "block":
		return m.makeLet(kind, depth, s)
	case "set!":
		if len(s.variables) > 0 {
			return &plan{kind: kind, names: pick(m.generator, s.variables), kids: m.kids(1, depth, s)}
		}
	case "swap!":
		if len(s.variables) > 0 {
			return &plan{kind: kind, names: append(pick(m.generator, s.variables), pick(m.generator, s.variables)...)}
		}
	case "local-macro", "defined-macro":
		return m.makeMacro(kind, depth, s)
	case "macro-use":
		if len(s.macros) > 0 {
			return &plan{kind: "macro use", names: pick(m.generator, s.macros), kids: m.kids(1, depth, s)}
		}
	}
	return m.atom(s)
}

func (m *planMaker) makeLet(kind string, depth int, s planScope) *plan {
	names := m.fresh(1 + m.below(2))
	inner := s.withVariables(names...)
	var kids []*plan
	for i := range names {
		switch kind {
		case "let":
			kids = append(kids, m.make(depth-1, s))
		case "let*":
			kids = append(kids, m.make(depth-1, s.withVariables(names[:i]...)))
		default:
			kids = append(kids, m.make(depth-1, inner))
		}
	}
	body := m.make(depth-1, inner)
	if kind == "block" {
		body = noForms(body)
	}
	return &plan{kind: kind, names: names, kids: append(kids, body)}
}

// noForms returns an expression, the parts of which are not those of the body
// around it, as those of begin would be.
func noForms(p *plan) *plan { return &plan{kind: "call", kids: []*plan{p}} }

func (m *planMaker) makeMacro(kind string, depth int, s planScope) *plan {
	names := m.fresh(3)
	if kind == "local-macro" {
		template := m.make(depth-1, s.withHole(names[1]))
		return &plan{kind: "local macro", names: names[:2], kids: []*plan{template, m.make(depth-1, s.withMacro(names[0]))}}
	}
	inner := s.withVariables(names[2])
	template := m.make(depth-1, inner.withHole(names[1]))
	inside := inner.withMacro(names[0])
	return &plan{kind: "defined macro", names: names, kids: []*plan{template, m.make(depth-1, inside), noForms(m.make(depth-1, inside))}}
}

// nameTexts are what names of plans may be called: many are used by the usual
// macros, as names of their own and as what they refer to.
var nameTexts = strings.Fields("x y t t tmp tmp loop loop a b c e m if if let let lambda lambda define begin set! + car cons glob glob or and quote else while let* cond swap! v1 syntax-rules define-syntax local when keep")

// A planNamer chooses the texts of names so that no name of the source stands
// where another one is meant.
type planNamer struct {
	*generator
	texts map[int]string
}

// choose chooses the texts of names that are bound in region. The texts taken
// may not be chosen.
func (n *planNamer) choose(names []int, region []*plan, taken []string) {
	for _, name := range names {
		bad := slices.Clone(taken)
		for _, p := range region {
			bad = append(bad, p.wordsOf(n.texts)...)
		}
		for _, other := range names {
			bad = append(bad, n.texts[other])
		}
		n.texts[name] = fmt.Sprint("n", name)
		for range 10 {
			if s := nameTexts[n.below(len(nameTexts))]; !slices.Contains(bad, s) {
				n.texts[name] = s
				break
			}
		}
	}
}

// chooseAll chooses the texts of all names of p. In templates, the texts of
// pattern variables are taken. A definition is bound without its use scopes, so
// that it may not have the text of a name around it that is bound with them,
// nor, where it is made by a macro, one that the macro introduces beside it.
func (n *planNamer) chooseAll(p *plan, taken, around []string) {
	count := len(p.names)
	definition := append(taken[:len(taken):len(taken)], around...)
	inTemplate := taken
	switch p.kind {
	case "lambda", "shift", "local":
		n.choose(p.names, p.kids, taken)
	case "let":
		n.choose(p.names, p.kids[count:], taken)
	case "let*":
		for i := range p.names {
			n.choose(p.names[i:i+1], p.kids[i+1:], taken)
		}
	case "letrec":
		n.choose(p.names, p.kids, append(definition, "define", "let"))
	case "block":
		n.choose(p.names, append(p.kids[:len(p.kids):len(p.kids)], &plan{kind: "define"}), definition)
	case "local macro":
		n.choose(p.names[:1], p.kids[1:], taken)
		n.choose(p.names[1:], p.kids[:1], taken)
		inTemplate = append(taken[:len(taken):len(taken)], n.texts[p.names[1]])
	case "defined macro":
		words := []*plan{{kind: "define"}, {kind: "define-syntax"}, {kind: "syntax-rules"}}
		n.choose([]int{p.names[0], p.names[2]}, append(words, p.kids...), definition)
		n.choose(p.names[1:2], p.kids[:1], taken)
		inTemplate = append(taken[:len(taken):len(taken)], n.texts[p.names[1]])
	}
	for _, name := range p.names {
		around = append(around[:len(around):len(around)], n.texts[name])
	}
	for i, kid := range p.kids {
		if i == 0 {
			n.chooseAll(kid, inTemplate, around)
		} else {
			n.chooseAll(kid, taken, around)
		}
	}
}

// plainTexts calls each name up to last by a text of its own.
func plainTexts(last int) map[int]string {
	texts := map[int]string{}
	for name := range last + 1 {
		texts[name] = fmt.Sprint("n", name)
	}
	return texts
}
