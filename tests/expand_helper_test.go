package tests

import (
	"fmt"
	"slices"
	"strings"
	"testing"

	"loop.example/g03220/impl"
)

// codeTexts are the texts of the codes from 0 on, written apart from the
// program.
var codeTexts = []string{"ok", "bad syntax", "unbound identifier", "ambiguous identifier", "duplicate definition", "definition in expression context", "no matching rule", "too many macro steps", "too large"}

// usualMacros are the macros of most tests; keep refers to the variable glob.
const usualMacros = `
(define-syntax let (syntax-rules () ((_ ((x e) ...) b ...) ((lambda (x ...) b ...) e ...))))
(define-syntax let* (syntax-rules () ((_ () b ...) (let () b ...)) ((_ (a m ...) b ...) (let (a) (let* (m ...) b ...)))))
(define-syntax letrec (syntax-rules () ((_ ((x e) ...) b ...) (let () (define x e) ... (let () b ...)))))
(define-syntax and (syntax-rules () ((_) #t) ((_ e) e) ((_ e m ...) (if e (and m ...) #f))))
(define-syntax or (syntax-rules () ((_) #f) ((_ e) e) ((_ e m ...) (let ((t e)) (if t t (or m ...))))))
(define-syntax when (syntax-rules () ((_ c e ...) (if c (begin e ...) #f))))
(define-syntax cond (syntax-rules (else) ((_) #f) ((_ (else e ...)) (begin e ...)) ((_ (c e ...) m ...) (if c (begin e ...) (cond m ...)))))
(define-syntax while (syntax-rules () ((_ c b ...) (let () (define (loop) (if c (begin b ... (loop)) #f)) (loop)))))
(define-syntax swap! (syntax-rules () ((_ a b) (let ((tmp a)) (set! a b) (set! b tmp)))))
(define-syntax keep (syntax-rules () ((_ e) (begin (set! glob e) (cons glob e)))))
`

// expanderOf returns an expander with these macros, which may have scopes as
// far as limit, and the variable glob with the number 1.
func expanderOf(t *testing.T, limit int, definitions string) impl.Expander {
	t.Helper()
	x := impl.Expander{Bindings: append(impl.CoreBindings(), variable(1, "glob")), Scope: limit, Variable: 1, Steps: 200}
	if strings.TrimSpace(definitions) == "" {
		return x
	}
	for _, s := range mustReadForms(t, definitions) {
		x.Bindings = append(x.Bindings, binding(impl.BindingMacro, len(x.Macros), s.Items[1].Text, s.Items[1].Scopes...))
		x.Macros = append(x.Macros, rulesIn(s.Items[2]))
	}
	return x
}

// rulesIn returns the rules of a syntax-rules form.
func rulesIn(s impl.Syntax) impl.Rules {
	r := impl.Rules{Literals: s.Items[1].Items}
	for _, clause := range s.Items[2:] {
		r.Patterns = append(r.Patterns, clause.Items[0])
		r.Templates = append(r.Templates, clause.Items[1])
	}
	return r
}

func usualExpander(t *testing.T) impl.Expander {
	t.Helper()
	return expanderOf(t, 0, usualMacros)
}

// sameExpander is written apart from EqualExpanders, which is under test.
func sameExpander(a, b impl.Expander) bool {
	if len(a.Macros) != len(b.Macros) || a.Scope != b.Scope || a.Variable != b.Variable || a.Steps != b.Steps {
		return false
	}
	for i := range a.Macros {
		if !sameRules(a.Macros[i], b.Macros[i]) {
			return false
		}
	}
	return sameBindings(a.Bindings, b.Bindings)
}

func isZeroExpander(x impl.Expander) bool { return sameExpander(x, impl.Expander{}) }

// showExpander writes any expander.
func showExpander(x impl.Expander) string {
	rules := fmt.Sprint(len(x.Macros))
	for _, r := range x.Macros[:min(len(x.Macros), 3)] {
		rules += " " + showRules(r)
	}
	return fmt.Sprintf("expander of scope %d, variable %d, %d steps, bindings %.600s, macros %.900s", x.Scope, x.Variable, x.Steps, showBindings(x.Bindings...), rules)
}

// greatestScope returns the greatest number among the scopes of these.
func greatestScope(list ...impl.Syntax) int {
	greatest := 0
	for _, s := range list {
		eachNode(s, func(_ []int, node impl.Syntax) {
			for _, n := range node.Scopes {
				greatest = max(greatest, n)
			}
		})
	}
	return greatest
}

// isGoodExpander describes a valid expander apart from IsExpander, which is
// under test.
func isGoodExpander(x impl.Expander) bool {
	good := len(x.Macros) <= 200 && areGoodBindings(x.Bindings) && 0 <= x.Scope && x.Scope <= 99999 && 0 <= x.Variable && x.Variable <= 99999 && 0 <= x.Steps && x.Steps <= 200
	for _, r := range x.Macros {
		good = good && areGoodRules(r) && greatestScope(slices.Concat(r.Literals, r.Patterns, r.Templates)...) <= x.Scope
	}
	for _, b := range x.Bindings {
		good = good && greatestScope(impl.Syntax{Scopes: b.Scopes}) <= x.Scope && (b.Kind != impl.BindingVariable || b.Number <= x.Variable) && (b.Kind != impl.BindingMacro || b.Number < len(x.Macros))
	}
	return good
}

func areKnownForms(forms []impl.Syntax, limit int) bool {
	for _, s := range forms {
		if !isSmallGoodForm(s) || greatestScope(s) > limit {
			return false
		}
	}
	return true
}

// A secondExpander expands a second time, written apart from the program: it
// takes forms apart with patterns of chapter 5, keeps the forms of a body in a
// queue, and stops with a panic.
type secondExpander struct {
	impl.Expander
	seen int
}

type stopped int

func stopIf(bad bool, code int) {
	if bad {
		panic(stopped(code))
	}
}

// described returns what run yields with a second expander, the expander behind
// it and the code.
func described[T any](x impl.Expander, forms []impl.Syntax, run func(m *secondExpander) T) (result T, after impl.Expander, code int) {
	if !isGoodExpander(x) || !areKnownForms(forms, x.Scope) {
		return result, x, impl.ExpandSyntax
	}
	m := &secondExpander{Expander: x}
	m.Bindings, m.Macros = slices.Clone(x.Bindings), slices.Clone(x.Macros)
	defer func() {
		if r := recover(); r != nil {
			code = int(r.(stopped))
			after = x
		}
	}()
	made := run(m)
	return made, m.Expander, impl.ExpandOk
}

func describedExpression(x impl.Expander, s impl.Syntax) (impl.Core, impl.Expander, int) {
	return described(x, []impl.Syntax{s}, func(m *secondExpander) impl.Core { return notTooLarge(m.expression(s)) })
}

func describedBody(x impl.Expander, forms []impl.Syntax) (impl.Core, impl.Expander, int) {
	return described(x, forms, func(m *secondExpander) impl.Core { return notTooLarge(m.body(forms)) })
}

func describedStep(x impl.Expander, s impl.Syntax) (impl.Syntax, impl.Expander, int) {
	return described(x, []impl.Syntax{s}, func(m *secondExpander) impl.Syntax {
		kind, number := m.headOf(s)
		stopIf(kind != impl.BindingMacro, impl.ExpandSyntax)
		return m.step(s, number)
	})
}

func describedTrace(x impl.Expander, s impl.Syntax) []impl.Syntax {
	var results []impl.Syntax
	for {
		result, after, code := describedStep(x, s)
		if code != impl.ExpandOk {
			return results
		}
		results = append(results, result)
		x, s = after, result
	}
}

func notTooLarge(c impl.Core) impl.Core {
	nodes := 0
	eachTerm(c, func(around []impl.Core, _ impl.Core) {
		nodes++
		stopIf(len(around) >= 150, impl.ExpandLarge)
	})
	stopIf(nodes > 3000, impl.ExpandLarge)
	return c
}

func (m *secondExpander) fresh(kind int) int {
	m.Scope++
	for m.Scope%3 != kind%3 {
		m.Scope++
	}
	stopIf(m.Scope > 99999, impl.ExpandLarge)
	return m.Scope
}

func (m *secondExpander) bind(id impl.Syntax, kind, number int) {
	for _, b := range m.Bindings {
		stopIf(b.Text == id.Text && sameInts(b.Scopes, id.Scopes), impl.ExpandDuplicate)
	}
	m.Bindings = append(m.Bindings, binding(kind, number, id.Text, id.Scopes...))
	stopIf(len(m.Bindings) > 1000, impl.ExpandLarge)
}

func (m *secondExpander) variable(id impl.Syntax) int {
	m.Variable++
	stopIf(m.Variable > 99999, impl.ExpandLarge)
	m.bind(id, impl.BindingVariable, m.Variable)
	return m.Variable
}

func (m *secondExpander) macro(id impl.Syntax, r impl.Rules) {
	m.Macros = append(m.Macros, r)
	stopIf(len(m.Macros) > 200, impl.ExpandLarge)
	m.bind(id, impl.BindingMacro, len(m.Macros)-1)
}

func (m *secondExpander) headOf(s impl.Syntax) (int, int) {
	if s.Kind != impl.DatumList || len(s.Items) == 0 {
		return 0, 0
	}
	b, _ := impl.Resolve(m.Bindings, s.Items[0])
	return b.Kind, b.Number
}

func (m *secondExpander) resolved(id impl.Syntax) (int, int) {
	b, code := impl.Resolve(m.Bindings, id)
	stopIf(code == impl.ResolveNone, impl.ExpandUnbound)
	stopIf(code == impl.ResolveAmbiguous, impl.ExpandAmbiguous)
	return b.Kind, b.Number
}

func (m *secondExpander) step(s impl.Syntax, number int) impl.Syntax {
	stopIf(m.Steps == 0, impl.ExpandFuel)
	m.Steps--
	use := m.fresh(impl.ScopeUse)
	introduction := m.fresh(impl.ScopeIntroduction)
	result, ok := impl.ApplyRules(m.Bindings, m.Macros[number], impl.FlipScope(impl.AddScope(s, use), introduction))
	stopIf(!ok, impl.ExpandNoRule)
	return impl.FlipScope(result, introduction)
}

func (m *secondExpander) look() {
	m.seen++
	stopIf(m.seen > 3000, impl.ExpandLarge)
}

// parts returns what the variables of a pattern match in a form.
func parts(pattern string, s impl.Syntax) map[string][]impl.Syntax {
	data, _ := impl.ParseData(pattern)
	captures, ok := impl.MatchPattern(nil, nil, impl.SyntaxOf(data[0]), s)
	stopIf(!ok, impl.ExpandSyntax)
	found := map[string][]impl.Syntax{}
	for _, c := range captures {
		if c.Depth == 0 {
			found[c.Name.Text] = []impl.Syntax{c.Form}
		}
		for _, each := range c.Each {
			found[c.Name.Text] = append(found[c.Name.Text], each.Form)
		}
	}
	return found
}

func onlySymbols(list []impl.Syntax) []impl.Syntax {
	for _, s := range list {
		stopIf(s.Kind != impl.DatumSymbol, impl.ExpandSyntax)
	}
	return list
}

func withoutScopes(s impl.Syntax) impl.Datum {
	d := impl.Datum{Kind: s.Kind, Number: s.Number, Text: s.Text}
	for _, item := range s.Items {
		d.Items = append(d.Items, withoutScopes(item))
	}
	return d
}

func (m *secondExpander) expression(s impl.Syntax) impl.Core {
	m.look()
	if s.Kind == impl.DatumSymbol {
		kind, n := m.resolved(s)
		stopIf(kind != impl.BindingVariable && kind != impl.BindingPrimitive, impl.ExpandSyntax)
		if kind == impl.BindingVariable {
			return useOf(n)
		}
		return primitive(n)
	}
	if s.Kind != impl.DatumList {
		return constant(withoutScopes(s))
	}
	stopIf(len(s.Items) == 0, impl.ExpandSyntax)
	switch kind, n := m.headOf(s); kind {
	case impl.BindingMacro:
		return m.expression(m.step(s, n))
	case impl.BindingForm:
		return m.special(formWords[n], s)
	}
	kids := m.expressions(s.Items)
	stopIf(len(kids) > 9, impl.ExpandLarge)
	return node(impl.CoreApply, kids...)
}

func (m *secondExpander) expressions(list []impl.Syntax) []impl.Core {
	kids := make([]impl.Core, len(list))
	for i, s := range list {
		kids[i] = m.expression(s)
	}
	return kids
}

func (m *secondExpander) special(word string, s impl.Syntax) impl.Core {
	switch word {
	case "quote":
		d := withoutScopes(parts("(_ d)", s)["d"][0])
		stopIf(!fits(d, 20) || impl.CountNodes(d) > 600, impl.ExpandLarge)
		return constant(d)
	case "if":
		parts("(_ a b c)", s)
		return node(impl.CoreIf, m.expressions(s.Items[1:])...)
	case "set!":
		p := parts("(_ x e)", s)
		kind, n := m.resolved(onlySymbols(p["x"])[0])
		stopIf(kind != impl.BindingVariable, impl.ExpandSyntax)
		return assignment(n, m.expression(p["e"][0]))
	case "begin":
		parts("(_ a b ...)", s)
		return joined(m.expressions(s.Items[1:]))
	case "reset":
		parts("(_ a b ...)", s)
		return node(impl.CoreReset, m.body(s.Items[1:]))
	case "lambda":
		return m.procedure(parts("(_ (x ...) a b ...)", s)["x"], s.Items[2:])
	case "shift":
		variables, forms := m.enter(parts("(_ k a b ...)", s)["k"], 8, s.Items[2:])
		return binder(impl.CoreShift, variables, m.body(forms))
	case "local":
		p := parts("(_ (x y ...) a b ...)", s)
		variables, forms := m.enter(append(p["x"], p["y"]...), 60, s.Items[2:])
		kids := m.expressions(forms)
		stopIf(len(kids) > 60, impl.ExpandLarge)
		return binder(impl.CoreLocal, variables, kids...)
	case "let-syntax":
		return m.localMacros(parts("(_ (e ...) a b ...)", s)["e"], s.Items[2:])
	}
	stopIf(strings.HasPrefix(word, "define"), impl.ExpandContext)
	panic(stopped(impl.ExpandSyntax))
}

func joined(terms []impl.Core) impl.Core {
	c := sequence(terms...)
	stopIf(len(c.Kids) > 60, impl.ExpandLarge)
	return c
}

func (m *secondExpander) enter(params []impl.Syntax, most int, forms []impl.Syntax) ([]int, []impl.Syntax) {
	onlySymbols(params)
	stopIf(len(params) > most, impl.ExpandLarge)
	scope := m.fresh(impl.ScopeBinding)
	var variables []int
	for _, param := range params {
		variables = append(variables, m.variable(impl.AddScope(param, scope)))
	}
	return variables, added(forms, scope)
}

// added adds a scope to each form; together they may be no valid list.
func added(forms []impl.Syntax, scope int) []impl.Syntax {
	var result []impl.Syntax
	for _, s := range forms {
		result = append(result, impl.AddScope(s, scope))
	}
	return result
}

func (m *secondExpander) procedure(params, body []impl.Syntax) impl.Core {
	variables, forms := m.enter(params, 8, body)
	return binder(impl.CoreLambda, variables, m.body(forms))
}

func (m *secondExpander) localMacros(elements, body []impl.Syntax) impl.Core {
	scope := m.fresh(impl.ScopeBinding)
	var all []impl.Rules
	for _, element := range elements {
		all = append(all, m.rulesAt(element))
	}
	for i, element := range elements {
		m.macro(impl.AddScope(element.Items[0], scope), all[i])
	}
	return m.body(added(body, scope))
}

// rulesAt returns the rules of a list of a name and of rules.
func (m *secondExpander) rulesAt(s impl.Syntax) impl.Rules {
	p := parts("(name rules)", s)
	onlySymbols(p["name"])
	r, ok := impl.ParseRules(m.Bindings, p["rules"][0])
	stopIf(!ok, impl.ExpandSyntax)
	return r
}

func (m *secondExpander) body(forms []impl.Syntax) impl.Core {
	kept := m.keep(added(forms, m.fresh(impl.ScopeBinding)))
	stopIf(len(kept) == 0 || kept[len(kept)-1].defined != 0, impl.ExpandSyntax)
	kids := m.keptTerms(kept)
	variables := definedIn(kept)
	if len(variables) == 0 {
		return joined(kids)
	}
	stopIf(len(variables) > 60 || len(kids) > 60, impl.ExpandLarge)
	return binder(impl.CoreLocal, variables, kids...)
}

// A keptForm is kept for later, with the variable that it defines, or 0.
type keptForm struct {
	impl.Syntax
	defined int
}

// keep looks at the forms of a body in order.
func (m *secondExpander) keep(queue []impl.Syntax) []keptForm {
	var kept []keptForm
	for len(queue) > 0 {
		s := queue[0]
		queue = queue[1:]
		m.look()
		kind, n := m.headOf(s)
		switch {
		case kind == impl.BindingMacro:
			queue = append([]impl.Syntax{m.step(s, n)}, queue...)
		case kind == impl.BindingForm && formWords[n] == "begin":
			queue = slices.Concat(s.Items[1:], queue)
		case kind == impl.BindingForm && formWords[n] == "define":
			kept = append(kept, keptForm{s, m.variable(impl.StripUses(definedName(s)))})
		case kind == impl.BindingForm && formWords[n] == "define-syntax":
			definition := form(s.Items[1:]...)
			r := m.rulesAt(definition)
			m.macro(impl.StripUses(definition.Items[0]), r)
		default:
			kept = append(kept, keptForm{s, 0})
		}
	}
	return kept
}

func definedIn(kept []keptForm) []int {
	var variables []int
	for _, k := range kept {
		if k.defined != 0 {
			variables = append(variables, k.defined)
		}
	}
	return variables
}

func (m *secondExpander) keptTerms(kept []keptForm) []impl.Core {
	var kids []impl.Core
	for _, k := range kept {
		if k.defined == 0 {
			kids = append(kids, m.expression(k.Syntax))
		} else {
			kids = append(kids, assignment(k.defined, m.definedValue(k.Syntax)))
		}
	}
	return kids
}

func definedName(s impl.Syntax) impl.Syntax {
	if len(s.Items) > 1 && s.Items[1].Kind == impl.DatumList {
		p := parts("(_ (f x ...) a b ...)", s)
		onlySymbols(p["x"])
		return onlySymbols(p["f"])[0]
	}
	return onlySymbols(parts("(_ x e)", s)["x"])[0]
}

func (m *secondExpander) definedValue(s impl.Syntax) impl.Core {
	if s.Items[1].Kind == impl.DatumList {
		return m.procedure(s.Items[1].Items[1:], s.Items[2:])
	}
	return m.expression(s.Items[2])
}

// The following check the functions against the second expander, and return
// what they return.
func checkExpression(t *testing.T, x impl.Expander, s impl.Syntax) (impl.Core, impl.Expander, int) {
	t.Helper()
	c, after, code := impl.ExpandExpression(x, s)
	wanted, wantedAfter, wantedCode := describedExpression(x, s)
	checkExpansion(t, "ExpandExpression of "+impl.FormatSyntax(s), x, c, after, code, wanted, wantedAfter, wantedCode)
	return c, after, code
}

func checkBody(t *testing.T, x impl.Expander, forms []impl.Syntax) (impl.Core, impl.Expander, int) {
	t.Helper()
	c, after, code := impl.ExpandBody(x, forms)
	wanted, wantedAfter, wantedCode := describedBody(x, forms)
	checkExpansion(t, "ExpandBody of "+impl.FormatSyntax(form(forms...)), x, c, after, code, wanted, wantedAfter, wantedCode)
	return c, after, code
}

func checkExpansion(t *testing.T, what string, x impl.Expander, c impl.Core, after impl.Expander, code int, wanted impl.Core, wantedAfter impl.Expander, wantedCode int) {
	t.Helper()
	if code != wantedCode {
		t.Errorf("%.2000s with the %s has the code %d, not %d", what, showExpander(x), code, wantedCode)
	}
	if !sameCore(c, wanted) {
		t.Errorf("%.2000s is %.1000s, not %.1000s", what, showCore(c), showCore(wanted))
	}
	if !sameExpander(after, wantedAfter) {
		t.Errorf("%.2000s returns the %s, not the %s", what, showExpander(after), showExpander(wantedAfter))
	}
}

func checkStep(t *testing.T, x impl.Expander, s impl.Syntax) (impl.Syntax, impl.Expander, int) {
	t.Helper()
	result, after, code := impl.ExpandStep(x, s)
	wanted, wantedAfter, wantedCode := describedStep(x, s)
	if code != wantedCode || !sameSyntax(result, wanted) || !sameExpander(after, wantedAfter) {
		t.Errorf("ExpandStep of %.2000s with the %s = %.1000s, %s, %d, not %.1000s, %s, %d", impl.FormatSyntax(s), showExpander(x), impl.FormatSyntax(result), showExpander(after), code, impl.FormatSyntax(wanted), showExpander(wantedAfter), wantedCode)
	}
	return result, after, code
}

func checkTrace(t *testing.T, x impl.Expander, s impl.Syntax) []impl.Syntax {
	t.Helper()
	results, wanted := impl.TraceForm(x, s), describedTrace(x, s)
	if !sameForms(results, wanted) {
		t.Errorf("TraceForm of %.2000s with the %s = %.2000s, not %.2000s", impl.FormatSyntax(s), showExpander(x), impl.FormatSyntax(form(results...)), impl.FormatSyntax(form(wanted...)))
	}
	return results
}
