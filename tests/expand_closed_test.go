package tests

import (
	"slices"
	"testing"

	"loop.example/g03220/impl"
)

// checkClosed checks the term and the expander that an expansion with x
// returns.
func checkClosed(t *testing.T, source string, x impl.Expander, c impl.Core, after impl.Expander) {
	t.Helper()
	free := describedFree(c)
	if !isGoodCore(c, free) || !impl.IsCore(c, free) {
		t.Errorf("%s expands to %s, which is not valid", source, showCore(c))
	}
	for _, n := range free {
		isThis := func(b impl.Binding) bool { return b.Kind == impl.BindingVariable && b.Number == n }
		if !slices.ContainsFunc(x.Bindings, isThis) {
			t.Errorf("%s expands to %s, in which %d is free", source, showCore(c), n)
		}
	}
	// The binders are the fresh variables, in order.
	if bound := describedBound(c); !sameInts(bound, from(x.Variable+1, after.Variable-x.Variable)) {
		t.Errorf("%s expands to %s behind the variable %d, and the expander has %d", source, showCore(c), x.Variable, after.Variable)
	}
	if !isGoodExpander(after) || !impl.IsExpander(after) || after.Scope < x.Scope || after.Steps > x.Steps || len(after.Bindings) < len(x.Bindings) || !sameBindings(after.Bindings[:len(x.Bindings)], x.Bindings) {
		t.Errorf("%s returns the %s", source, showExpander(after))
	}
}

// checkAgain expands the datum of a term, with the free variables bound to the
// names that they have in it, and reports whether this is a valid datum.
func checkAgain(t *testing.T, source string, x impl.Expander, c impl.Core) bool {
	t.Helper()
	d := impl.UnparseCore(c)
	if !impl.IsDatum(d) {
		return false
	}
	y := impl.Expander{Bindings: impl.CoreBindings(), Scope: x.Scope, Variable: x.Variable}
	for _, n := range describedFree(c) {
		y.Bindings = append(y.Bindings, variable(n, variableSymbol(n).Text))
	}
	again, _, code := impl.ExpandExpression(y, impl.SyntaxOf(d))
	if code != impl.ExpandOk || !sameCore(again, c) {
		t.Errorf("%s expands to %s, which expands to %s, %d", source, describedText(d), showCore(again), code)
	}
	body, _, code := impl.ExpandBody(y, []impl.Syntax{impl.SyntaxOf(d)})
	if code != impl.ExpandOk || !sameCore(body, c) {
		t.Errorf("%s expands to %s, which as a body expands to %s, %d", source, describedText(d), showCore(body), code)
	}
	if read, ok := impl.ReadCore(d); !ok || !sameCore(read, c) {
		t.Errorf("%s expands to %s, which is read as %s", source, describedText(d), showCore(read))
	}
	return true
}

// P6: expansions are closed terms with unique binders; written as data, they
// expand to themselves, and are read back.
func TestP6Expansions(t *testing.T) {
	g := generator(167)
	usual := usualExpander(t)
	found, again := 0, 0
	for i := range 4000 {
		x := g.sourceExpander(usual)
		x.Steps = 200
		if x.Scope > 1000 {
			x.Scope = 7
		}
		source := g.source('B', 3+i%4, 0)
		forms := mustReadForms(t, source)
		var c impl.Core
		var after impl.Expander
		var code int
		if i%2 == 0 {
			c, after, code = impl.ExpandBody(x, forms)
		} else {
			source = impl.FormatSyntax(forms[len(forms)-1])
			c, after, code = impl.ExpandExpression(x, forms[len(forms)-1])
		}
		if code != impl.ExpandOk {
			continue
		}
		found++
		checkClosed(t, source, x, c, after)
		if checkAgain(t, source, x, c) {
			again++
		}
	}
	if found < 800 || again < 700 {
		t.Errorf("only %d sources expand, %d of them to valid data", found, again)
	}
}

// Terms of any kind expand to themselves when they are written as data, with
// their binders in order.
func TestP6Terms(t *testing.T) {
	g := generator(173)
	again := 0
	for range 1500 {
		c := g.core(4)
		free := describedFree(c)
		x := impl.Expander{Bindings: impl.CoreBindings(), Variable: slices.Max(append(free, 0))}
		for _, n := range free {
			x.Bindings = append(x.Bindings, variable(n, variableSymbol(n).Text))
		}
		renumbered, _ := impl.RenumberCore(c, x.Variable+1)
		checkTerm := func(c impl.Core) {
			d := impl.UnparseCore(c)
			if !impl.IsDatum(d) {
				return
			}
			again++
			got, after, code := checkExpression(t, x, impl.SyntaxOf(d))
			if code != impl.ExpandOk || !impl.AlphaEqual(got, renumbered) || !sameCore(got, renumbered) {
				t.Errorf("%s expands to %s, %d", describedText(d), showCore(got), code)
			}
			checkClosed(t, describedText(d), x, got, after)
		}
		checkTerm(renumbered)
		checkTerm(c)
	}
	if again < 1500 {
		t.Errorf("only %d terms are valid data", again)
	}
}
