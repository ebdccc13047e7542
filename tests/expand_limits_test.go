package tests

import (
	"fmt"
	"slices"
	"strings"
	"testing"

	"loop.example/g03220/impl"
)

// wrapMacros make terms that are deeper than syntax objects: one reset or
// procedure for each item.
const wrapMacros = usualMacros + `
(define-syntax resets (syntax-rules () ((_ e) e) ((_ e a m ...) (reset (resets e m ...)))))
(define-syntax locals (syntax-rules () ((_ e) e) ((_ e a m ...) (local (a) (locals e m ...)))))
`

func ones(n int) []impl.Syntax {
	result := make([]impl.Syntax, n)
	for i := range result {
		result[i] = plain(number(1))
	}
	return result
}

func TestExpandDepth(t *testing.T) {
	x := expanderOf(t, 0, wrapMacros)
	for _, c := range []struct{ resets, code int }{{0, impl.ExpandOk}, {1, impl.ExpandOk}, {60, impl.ExpandOk}, {148, impl.ExpandOk}, {149, impl.ExpandOk}, {150, impl.ExpandLarge}, {151, impl.ExpandLarge}, {180, impl.ExpandLarge}, {199, impl.ExpandLarge}, {200, impl.ExpandFuel}} {
		s := form(slices.Concat([]impl.Syntax{identifier("resets"), identifier("glob")}, ones(c.resets))...)
		term, after, code := checkExpression(t, x, s)
		if code != c.code || code == impl.ExpandOk && (impl.DepthOfCore(term) != c.resets+1 || after.Steps != 199-c.resets) {
			t.Errorf("a term of depth %d has the code %d", c.resets+1, code)
		}
		if _, _, code := checkBody(t, x, []impl.Syntax{s}); code != c.code {
			t.Errorf("a body of depth %d has the code %d", c.resets+1, code)
		}
		// Within an assignment the term is deeper by one node.
		want := c.code
		if c.resets == 149 {
			want = impl.ExpandLarge
		}
		if _, _, code := checkExpression(t, x, form(identifier("set!"), identifier("glob"), s)); code != want {
			t.Errorf("an assignment of depth %d has the code %d", c.resets+2, code)
		}
		// What is not valid behind a deep term is met first.
		if _, _, code := checkBody(t, x, []impl.Syntax{s, identifier("zz")}); code != impl.ExpandUnbound && c.resets < 200 {
			t.Errorf("a body of depth %d and an identifier that is not bound have the code %d", c.resets+1, code)
		}
	}
}

// tree returns an application of this many nodes, all of which are expressions,
// and as few of them within each other as there can be.
func tree(nodes int) impl.Syntax {
	if nodes == 1 {
		return identifier("glob")
	}
	s := form()
	for left := nodes - 1; left > 0; {
		part := min(left, (nodes+7)/9)
		s.Items = append(s.Items, tree(part))
		left -= part
	}
	return s
}

// Without definitions, a term has as many nodes as expressions are counted, at
// most.
func TestExpandNodes(t *testing.T) {
	x := expanderOf(t, 0, usualMacros+"(define-syntax both (syntax-rules () ((_ a) (cons a a)) ((_ a b) (cons a (cons b a)))))")
	for _, c := range []struct {
		form        impl.Syntax
		nodes, code int
	}{
		{tree(1000), 1000, impl.ExpandOk}, {tree(2000), 2000, impl.ExpandOk}, {tree(2001), 0, impl.ExpandSyntax},
		// The step and its result are counted both.
		{form(identifier("both"), tree(998)), 1998, impl.ExpandOk}, {form(identifier("both"), tree(999)), 2000, impl.ExpandOk}, {form(identifier("both"), tree(1000)), 0, impl.ExpandNoRule},
		{form(identifier("both"), form(identifier("both"), tree(747))), 2994, impl.ExpandOk}, {form(identifier("both"), form(identifier("both"), tree(748))), 0, impl.ExpandLarge},
		{form(identifier("both"), form(identifier("both"), tree(747)), tree(1)), 2997, impl.ExpandOk}, {form(identifier("both"), form(identifier("both"), tree(747)), tree(2)), 0, impl.ExpandLarge},
	} {
		term, _, code := checkExpression(t, x, c.form)
		if code != c.code || code == impl.ExpandOk && impl.SizeOfCore(term) != c.nodes {
			t.Errorf("ExpandExpression(%.100s) has the code %d and %d nodes, not %d and %d", impl.FormatSyntax(c.form), code, impl.SizeOfCore(term), c.code, c.nodes)
		}
	}
}

// Terms of MaxCore nodes: with definitions of variables, a body has as many
// nodes as are counted, and with procedures that have definitions it has more,
// so that the term is too large although the count is not.
func TestExpandBodyNodes(t *testing.T) {
	x := expanderOf(t, 0, usualMacros)
	define := func(name string, nodes int) impl.Syntax {
		return form(identifier("define"), identifier(name), tree(nodes))
	}
	for _, c := range []struct {
		list []impl.Syntax
		code int
	}{
		{[]impl.Syntax{define("a", 1000), define("b", 1996), plain(number(1))}, impl.ExpandOk}, {[]impl.Syntax{define("a", 1000), define("b", 1997), plain(number(1))}, impl.ExpandLarge},
		{[]impl.Syntax{define("a", 1000), form(identifier("define"), form(identifier("f")), tree(1995)), plain(number(1))}, impl.ExpandOk}, {[]impl.Syntax{define("a", 1000), form(identifier("define"), form(identifier("f")), tree(1996)), plain(number(1))}, impl.ExpandLarge},
	} {
		term, _, code := checkBody(t, x, c.list)
		if code != c.code || code == impl.ExpandOk && impl.SizeOfCore(term) != 3000 {
			t.Errorf("a body of %d nodes has the code %d, not %d", impl.SizeOfCore(term), code, c.code)
		}
	}
	for extra, wanted := range []int{impl.ExpandOk, impl.ExpandLarge} {
		var list []impl.Syntax
		for _, name := range strings.Fields(symbols(57)) {
			list = append(list, mustReadForm(t, "(define ("+name+") (define c 1) 2)"))
		}
		list = append(list, define("a", 1000), define("b", 1654+extra), plain(number(1)))
		term, _, code := checkBody(t, x, list)
		if code != wanted || code == impl.ExpandOk && impl.SizeOfCore(term) != 3000 {
			t.Errorf("a body with procedures and %d nodes has the code %d, not %d", impl.SizeOfCore(term), code, wanted)
		}
	}
}

// Where the scopes end, each form takes as many as the chapter says.
func TestExpandNearLastScope(t *testing.T) {
	x := usualExpander(t)
	for _, c := range []struct {
		source          string
		last, lastFails int // the greatest scope with which it succeeds, and with which it fails otherwise than by scopes
		code            int
	}{
		{"5", 99999, 99999, 0}, {"glob", 99999, 99999, 0}, {"(car glob)", 99999, 99999, 0}, {"(quote x)", 99999, 99999, 0}, {"(begin 1 2)", 99999, 99999, 0}, {"(set! glob 1)", 99999, 99999, 0}, {"(if 1 2 3)", 99999, 99999, 0},
		{"(reset 1)", 99996, 99999, 8}, {"(lambda () 1)", 99993, 99999, 8}, {"(lambda (a) a)", 99993, 99999, 8}, {"(shift k k)", 99993, 99999, 8}, {"(local (a) a)", 99996, 99999, 8}, {"(let-syntax () 1)", 99993, 99999, 8}, {"(let-syntax ((m (syntax-rules () ((_) 1)))) (m))", 99990, 99999, 8},
		{"(and 1)", 99995, 99999, 8}, {"(and)", 99995, 99999, 8}, {"(and (and))", 99992, 99999, 8}, {"(reset (reset 1))", 99993, 99999, 8}, {"(reset (and 1))", 99993, 99999, 8},
		// Other errors are met before or behind the scopes.
		{"(reset)", -1, 99999, 1}, {"(lambda ())", -1, 99999, 1}, {"(lambda (5) 1)", -1, 99999, 1}, {"(lambda (a b c d e f g h i) 1)", -1, 99999, 8}, {"(lambda (a a) 1)", -1, 99996, 4}, {"(lambda () zz)", -1, 99993, 2}, {"(shift 5 1)", -1, 99999, 1}, {"(shift k)", -1, 99999, 1}, {"(local (a))", -1, 99999, 1}, {"(set! glob)", -1, 99999, 1}, {"(local () 1)", -1, 99999, 1}, {"(local (a) zz)", -1, 99996, 2}, {"(let-syntax (m) 1)", -1, 99996, 1}, {"(let-syntax m 1)", -1, 99999, 1}, {"(let-syntax (m))", -1, 99999, 1}, {"(let)", -1, 99995, 6}, {"(zz (let))", -1, 99999, 2}, {"((let) zz)", -1, 99995, 6}, {"(reset (begin))", -1, 99996, 1}, {"(begin (reset 1) zz)", -1, 99996, 2}, {"(define)", -1, 99999, 5},
	} {
		for scope := 99980; scope <= 99999; scope++ {
			x.Scope = scope
			want := impl.ExpandLarge
			if scope <= c.last {
				want = impl.ExpandOk
			} else if c.last < 0 && scope <= c.lastFails {
				want = c.code
			}
			if _, _, code := checkExpression(t, x, mustReadForm(t, c.source)); code != want {
				t.Errorf("ExpandExpression(%s) behind the scope %d has the code %d, not %d", c.source, scope, code, want)
			}
		}
	}
	for _, c := range []struct {
		source string
		last   int
	}{{"5", 99996}, {"(define a 1) a", 99996}, {"(define (f) 1) f", 99990}, {"(begin) 1", 99996}, {"(and 1) 2", 99993}, {"(define-syntax m (syntax-rules () ((_) 1))) (m)", 99993}} {
		for scope := 99980; scope <= 99999; scope++ {
			x.Scope = scope
			if _, _, code := checkBody(t, x, mustReadForms(t, c.source)); code != impl.ExpandOk != (scope > c.last) || code != impl.ExpandOk && code != impl.ExpandLarge {
				t.Errorf("ExpandBody(%s) behind the scope %d has the code %d", c.source, scope, code)
			}
		}
	}
}

func TestExpandSteps(t *testing.T) {
	x := usualExpander(t)
	for _, c := range []struct {
		source string
		steps  int
	}{{"5", 0}, {"(lambda (a) a)", 0}, {"(and)", 1}, {"(and 1)", 1}, {"(and 1 2)", 2}, {"(or 1 2)", 3}, {"(let* ((a 1) (b 2)) b)", 6}, {"(begin (and) (and) (and))", 3}, {"(lambda () (define a (and)) (and))", 2}, {"(quote (and))", 0}, {"(while 1 2)", 2}} {
		for steps := range 12 {
			x.Steps = steps
			_, after, code := checkExpression(t, x, mustReadForm(t, c.source))
			if code == impl.ExpandOk != (steps >= c.steps) || code == impl.ExpandOk && after.Steps != steps-c.steps || code != impl.ExpandOk && code != impl.ExpandFuel {
				t.Errorf("ExpandExpression(%s) with %d steps has the code %d and %d steps left", c.source, steps, code, after.Steps)
			}
		}
	}
	x = expanderOf(t, 0, usualMacros+"(define-syntax again (syntax-rules () ((_) (again))))(define-syntax more (syntax-rules () ((_) (begin 1 (more)))))(define-syntax spread (syntax-rules () ((_) (+ (spread) (spread)))))")
	for _, source := range []string{"(again)", "(more)", "(spread)", "(lambda () (again))", "(lambda () (more))"} {
		for _, steps := range []int{0, 1, 7, 200} {
			x.Steps = steps
			if _, _, code := checkExpression(t, x, mustReadForm(t, source)); code != impl.ExpandFuel {
				t.Errorf("ExpandExpression(%s) has the code %d", source, code)
			}
			if _, _, code := checkBody(t, x, mustReadForms(t, source)); code != impl.ExpandFuel {
				t.Errorf("ExpandBody(%s) has the code %d", source, code)
			}
		}
	}
	// Where the count ends before the steps do.
	x.Steps = 200
	wide := "(define-syntax wide (syntax-rules () ((_ e) (begin " + strings.Repeat("1 ", 40) + "(wide e)))))"
	y := expanderOf(t, 0, wide)
	if _, _, code := checkBody(t, y, mustReadForms(t, "(wide 1)")); code != impl.ExpandLarge {
		t.Errorf("a macro that never ends has the code %d", code)
	}
	y.Steps = 60
	if _, _, code := checkBody(t, y, mustReadForms(t, "(wide 1)")); code != impl.ExpandFuel {
		t.Errorf("a macro that never ends has with fewer steps the code %d", code)
	}
}

// The first of two errors counts, in the order in which the items of a form are
// described and expanded.
func TestFirstOfTwoErrors(t *testing.T) {
	x := usualExpander(t)
	errors := []struct {
		source string
		code   int
	}{{"zz", impl.ExpandUnbound}, {"()", impl.ExpandSyntax}, {"(lambda (a a) 1)", impl.ExpandDuplicate}, {"(define a 1)", impl.ExpandContext}, {"(let)", impl.ExpandNoRule}, {"(+ 1 2 3 4 5 6 7 8 9)", impl.ExpandLarge}, {"two{1,2}", impl.ExpandAmbiguous}}
	x.Scope = 2
	x.Bindings = append(x.Bindings, variable(0, "two", 1), variable(1, "two", 2))
	for _, around := range []string{"(car %s %s)", "(%s %s)", "(begin %s %s)", "(if %s %s 1)", "(if 1 %s %s)", "(local (b) %s %s)", "(lambda (b) (car %s) (car %s))", "(reset (car %s) (car %s))", "(shift b (car %s) (car %s))", "(begin (set! glob %s) %s)", "(begin (let ((b %s)) b) %s)", "(begin (let-syntax () (car %s)) %s)", "(lambda () (define b %s) (car %s))", "(lambda () (define (b) (car %s)) (car %s))", "(and %s %s)", "(or %s %s)", "(when %s %s)", "(car (quote %s) %s)"} {
		for _, first := range errors {
			for _, second := range errors {
				source := fmt.Sprintf(around, first.source, second.source)
				want := first.code
				// The macro or makes a procedure of its last items, which is expanded first.
				if strings.Contains(around, "quote") || strings.Contains(around, "(or") {
					want = second.code
				}
				if _, _, code := checkExpression(t, x, mustReadForm(t, source)); code != want {
					t.Errorf("ExpandExpression(%s) has the code %d, not %d", source, code, want)
				}
			}
		}
	}
}
