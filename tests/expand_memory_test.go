package tests

import (
	"slices"
	"testing"

	"loop.example/g03220/impl"
)

// expanderWithSpare copies into slices with spare capacity, behind which a
// marker shows whether it was written to.
func expanderWithSpare(x impl.Expander) impl.Expander {
	x.Bindings = bindingsWithSpare(x.Bindings)
	macros := make([]impl.Rules, 0, len(x.Macros)+2)
	for _, r := range x.Macros {
		macros = append(macros, rulesWithSpare(r))
	}
	for i := len(macros); i < cap(macros); i++ {
		macros[:cap(macros)][i] = spareRules()
	}
	x.Macros = macros
	return x
}

func spareRules() impl.Rules { return impl.Rules{Literals: []impl.Syntax{{Kind: 77}}} }

func spareExpanderIsIntact(x impl.Expander) bool {
	for i, r := range x.Macros[:cap(x.Macros)] {
		if i < len(x.Macros) && !spareRulesAreIntact(r) {
			return false
		}
		if i >= len(x.Macros) && !sameRules(r, spareRules()) {
			return false
		}
	}
	return spareBindingsAreIntact(x.Bindings)
}

// expanderMemory is what was seen of expanders and of terms.
type expanderMemory struct {
	coreMemory
	bindings map[*impl.Binding]bool
	rules    map[*impl.Rules]bool
}

func newExpanderMemory() expanderMemory {
	return expanderMemory{newCoreMemory(), map[*impl.Binding]bool{}, map[*impl.Rules]bool{}}
}

// sharesExpander reports whether a part of x was seen before; it adds all parts
// to those seen.
func (m expanderMemory) sharesExpander(x impl.Expander) bool {
	if (bindingMemory{m.memory, m.bindings}).sharesBindings(x.Bindings) {
		return true
	}
	all := x.Macros[:cap(x.Macros)]
	for i := range all {
		if m.rules[&all[i]] || m.sharesRules(all[i]) {
			return true
		}
		m.rules[&all[i]] = true
	}
	return false
}

// memoryCases are sources that reach each way to end.
var memoryCases = []string{
	"5", "glob", "zz", "()", "(quote (a (b 5 \"s\")))", "(quote x{1,4})", "(lambda (a b) (a b) b)", "(lambda (a a) 1)", "(lambda (a b c d e f g h i) 1)", "(let ((a 1) (b 2)) (or a b))", "(let* ((a 1) (b (a))) (begin a b))", "(letrec ((f (lambda (n) (f n)))) (quote f))", "(define a 1)", "(let)", "(shift k (k k))", "(local (a b) a (begin b a))", "(local () 1)", "(set! glob (set! y 1))", "(set! car 1)", "(reset (define a 1) (define (f b c) b c) (f a))",
	"(let-syntax ((m (syntax-rules (l) ((_ e l) (quote (e l y)))))) (m (1 2) l))", "(let-syntax ((m (syntax-rules (l) ((_ e) e)))) (m))", "(let-syntax ((m (syntax-rules () ((_ e) e))) (m (syntax-rules () ((_ e) e)))) 1)", "(lambda () (define-syntax m (syntax-rules () ((_ n e ...) (define (n e ...) e ... (quote (n e ...)))))) (m f a b) (f 1 2))", "(cond (y 1) (else (quote (2 3))))", "(keep (quote (1 2)))", "(while y (keep y))", "(quote (quote (a)))", "two{1,2}", "(if (quote (1)) (quote (2)) (quote (3)))", "(y{2} x{1,4})",
}

func TestExpandersAreNotModified(t *testing.T) {
	x, same := expanderWithSpare(caseExpander(t)), expanderWithSpare(caseExpander(t))
	rules := rulesWithSpare(mustReadRules(t, "l{3}", "(_ x{1} ...) (x{1} ... y)"))
	for _, source := range memoryCases {
		for _, steps := range []int{200, 1} {
			x.Steps, same.Steps = steps, steps
			forms, sameForms1 := formsWithSpare(mustReadForms(t, source+" 1")), mustReadForms(t, source+" 1")
			s := forms[0]
			impl.IsExpander(x)
			impl.EqualExpanders(x, same)
			for kind := range 4 {
				impl.FreshScope(x, kind)
			}
			for _, id := range slices.Concat(forms, identifiersIn(s)) {
				impl.BindVariable(x, id)
				impl.BindMacro(x, id, rules)
			}
			impl.ExpandStep(x, s)
			impl.ExpandExpression(x, s)
			impl.ExpandBody(x, forms)
			impl.TraceForm(x, s)
			if !sameExpander(x, same) || !spareExpanderIsIntact(x) || !sameForms(forms, sameForms1) || !spareFormsAreIntact(forms) {
				t.Fatalf("the expander, or %s, was modified", source)
			}
		}
	}
	if !sameRules(rules, mustReadRules(t, "l{3}", "(_ x{1} ...) (x{1} ... y)")) || !spareRulesAreIntact(rules) {
		t.Error("the rules were modified")
	}
	for _, bad := range badExpanders(t) {
		if len(bad.Bindings) > 1500 || len(bad.Macros) > 0 && len(bad.Macros[len(bad.Macros)-1].Templates) > 0 && impl.CountSyntax(bad.Macros[len(bad.Macros)-1].Templates[0]) > 5000 {
			continue
		}
		x := expanderWithSpare(bad)
		impl.IsExpander(x)
		impl.FreshScope(x, 1)
		impl.BindVariable(x, identifier("new"))
		impl.BindMacro(x, identifier("new"), rules)
		impl.ExpandStep(x, plain(number(1)))
		impl.ExpandExpression(x, plain(number(1)))
		impl.ExpandBody(x, nil)
		impl.TraceForm(x, plain(number(1)))
		if !sameExpander(x, bad) || !spareExpanderIsIntact(x) {
			t.Errorf("the %s was modified", showExpander(bad))
		}
	}
}

func identifiersIn(s impl.Syntax) []impl.Syntax {
	var found []impl.Syntax
	eachNode(s, func(_ []int, node impl.Syntax) {
		if node.Kind == impl.DatumSymbol {
			found = append(found, node)
		}
	})
	return found
}

func TestExpandersShareNoMemory(t *testing.T) {
	x := expanderWithSpare(caseExpander(t))
	rules := rulesWithSpare(mustReadRules(t, "l{3}", "(_ x{1} ...) (x{1} ... y)"))
	strange := expanderWithSpare(impl.Expander{Bindings: []impl.Binding{{Text: "x", Kind: 9, Scopes: []int{3, 1}}, variable(1, "a", 1)}, Macros: []impl.Rules{rulesWithSpare(rules), {Patterns: []impl.Syntax{{Kind: 8, Scopes: []int{2}, Items: leaves(2)}}}}, Scope: -1})
	seen := newExpanderMemory()
	if seen.sharesExpander(x) || seen.sharesRules(rules) || seen.sharesExpander(strange) {
		t.Fatal("the arguments share memory")
	}
	check := func(what string, shared bool) {
		t.Helper()
		if shared {
			t.Errorf("the results of %s share memory", what)
		}
	}
	for _, y := range []impl.Expander{x, strange} {
		for kind := range 4 {
			after, _ := impl.FreshScope(y, kind)
			check("FreshScope", seen.sharesExpander(after))
		}
		for _, source := range []string{"new", "new{1,4}", "x{1,4}", "y", "x{1,99}"} {
			id := formsWithSpare(mustReadForms(t, source))[0]
			seen.sharesForm(id)
			for range 2 {
				after, _ := impl.BindVariable(y, id)
				check("BindVariable", seen.sharesExpander(after))
				after, _ = impl.BindMacro(y, id, rules)
				check("BindMacro", seen.sharesExpander(after))
			}
		}
	}
	for _, source := range memoryCases {
		forms := formsWithSpare(mustReadForms(t, source+" (quote (1 2))"))
		if seen.sharesForms(forms) {
			t.Fatal("the forms share memory")
		}
		for _, y := range []impl.Expander{x, strange, x} {
			result, after, _ := impl.ExpandStep(y, forms[0])
			check("ExpandStep of "+source, seen.sharesForm(result) || seen.sharesExpander(after))
			c, after, _ := impl.ExpandExpression(y, forms[0])
			check("ExpandExpression of "+source, seen.sharesCore(c) || seen.sharesExpander(after))
			c, after, _ = impl.ExpandBody(y, forms)
			check("ExpandBody of "+source, seen.sharesCore(c) || seen.sharesExpander(after))
			check("TraceForm of "+source, seen.sharesForms(impl.TraceForm(y, forms[0])))
		}
	}
	check("NewExpander", seen.sharesExpander(impl.NewExpander()) || seen.sharesExpander(impl.NewExpander()))
}

// Where the parts of an argument are the same memory, those of a result are
// not.
func TestPartsOfExpandersAreCopied(t *testing.T) {
	scopes := scopesWithSpare([]int{1, 4})
	s := impl.Syntax{Kind: impl.DatumSymbol, Text: "x", Scopes: scopes}
	pair := formsWithSpare([]impl.Syntax{s, s})
	quote := form(identifier("quote"), impl.Syntax{Items: pair})
	r := impl.Rules{Patterns: []impl.Syntax{form(s)}, Templates: []impl.Syntax{{Items: pair}}}
	x := impl.Expander{Bindings: append(impl.CoreBindings(), variable(1, "x", 1), binding(impl.BindingMacro, 1, "m", 4)), Macros: []impl.Rules{r, r}, Scope: 9, Variable: 1, Steps: 9}
	x.Bindings[26].Scopes, x.Bindings[27].Scopes = scopes, scopes
	seen := newExpanderMemory()
	seen.sharesScopes(scopes)
	seen.sharesForms(pair)
	for range 2 {
		after, scope := impl.FreshScope(x, 1)
		if scope != 10 || seen.sharesExpander(after) {
			t.Error("the results of FreshScope share memory")
		}
		after, n := impl.BindVariable(x, identifier("y", scopes...))
		if n != 2 || seen.sharesExpander(after) {
			t.Error("the results of BindVariable share memory")
		}
		after, ok := impl.BindMacro(x, identifier("y", scopes...), r)
		if !ok || seen.sharesExpander(after) {
			t.Error("the results of BindMacro share memory")
		}
		c, after, code := impl.ExpandBody(x, []impl.Syntax{quote, quote, s, form(identifier("m", 1, 4)), s})
		if code != impl.ExpandOk || seen.sharesCore(c) || seen.sharesExpander(after) {
			t.Error("the results of ExpandBody share memory")
		}
		c, after, code = impl.ExpandBody(x, []impl.Syntax{quote, s, {}})
		if code != impl.ExpandSyntax || seen.sharesCore(c) || seen.sharesExpander(after) {
			t.Error("the results of ExpandBody that fails share memory")
		}
		c, after, code = impl.ExpandBody(x, []impl.Syntax{quote, quote, s, s})
		if code != impl.ExpandOk || seen.sharesCore(c) || seen.sharesExpander(after) {
			t.Error("the results of ExpandBody share memory")
		}
		c, after, code = impl.ExpandExpression(x, form(quote, quote, s, quote))
		if code != impl.ExpandOk || seen.sharesCore(c) || seen.sharesExpander(after) {
			t.Error("the results of ExpandExpression share memory")
		}
		result, after, code := impl.ExpandStep(x, form(identifier("m", 1, 4)))
		if code != impl.ExpandOk || seen.sharesForm(result) || seen.sharesExpander(after) {
			t.Error("the results of ExpandStep share memory")
		}
	}
	if !sameInts(scopes, []int{1, 4}) || !spareScopesAreIntact(scopes) || !slices.EqualFunc(pair, []impl.Syntax{s, s}, sameSyntax) || !spareFormsAreIntact(pair) {
		t.Error("an argument was modified")
	}
}
