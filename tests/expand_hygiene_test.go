package tests

import (
	"testing"

	"loop.example/g03220/impl"
)

// P5: the expansion of a source is what the source means, whatever its names
// are called: only quoted data depend on them.
func TestP5NamesOfVariables(t *testing.T) {
	g := generator(179)
	usual := usualExpander(t)
	found, quoted := 0, 0
	for i := range 900 {
		m := planMaker{generator: &g}
		p := m.make(3+i%3, planScope{})
		for round := range 4 {
			texts := plainTexts(m.last)
			if round > 0 {
				n := planNamer{&g, map[int]string{}}
				n.chooseAll(p, nil, nil)
				texts = n.texts
			}
			source := p.text(texts)
			s := mustReadForm(t, source)
			c, after, code := impl.ExpandExpression(usual, s)
			if code == impl.ExpandFuel || code == impl.ExpandLarge {
				continue
			}
			found++
			k := planner{last: 1, texts: texts}
			want := k.term(p, meanings{})
			if code != impl.ExpandOk || addresses(c) != addresses(want) || !impl.AlphaEqual(c, want) {
				t.Fatalf("%s expands to %s, %d, not to %s", source, outcome(c, code), code, outcome(want, 0))
			}
			checkClosed(t, source, usual, c, after)
			if hasSymbols(c) {
				quoted++
			}
		}
	}
	if found < 3000 || quoted < 300 {
		t.Errorf("only %d sources expand, %d with quoted names", found, quoted)
	}
}

func hasSymbols(c impl.Core) bool {
	has := false
	eachTerm(c, func(_ []impl.Core, c impl.Core) { has = has || c.Datum.Kind == impl.DatumSymbol })
	return has
}

// P5: two names that an expander does not bind may be exchanged in any source,
// which then has the same expansion, but for quoted data, or the same error.
func TestP5ExchangedNames(t *testing.T) {
	g := generator(181)
	usual := usualExpander(t)
	names := []string{"x", "y", "t", "f", "m", "a", "e", "tmp", "loop", "b", "c", "never"}
	changed := 0
	for i := range 3000 {
		source := g.source('E', 3+i%3, []int{0, 10}[i%2])
		data, ok := impl.ParseData(source)
		if !ok {
			continue
		}
		a, b := names[g.below(len(names))], names[g.below(len(names))]
		swapped := impl.SwapSymbols(data[0], a, b)
		c, after, code := impl.ExpandExpression(usual, impl.SyntaxOf(data[0]))
		got, afterSwapped, gotCode := impl.ExpandExpression(usual, impl.SyntaxOf(swapped))
		if gotCode != code || !sameCore(got, withSwappedData(c, a, b)) || after.Scope != afterSwapped.Scope || after.Variable != afterSwapped.Variable || after.Steps != afterSwapped.Steps {
			t.Fatalf("%s expands to %s, and with %s and %s exchanged to %s", source, outcome(c, code), a, b, outcome(got, gotCode))
		}
		if code == impl.ExpandOk && !sameDatum(data[0], swapped) {
			changed++
		}
	}
	if changed < 50 {
		t.Errorf("only %d sources are changed", changed)
	}
}

func withSwappedData(c impl.Core, a, b string) impl.Core {
	if impl.IsDatum(c.Datum) {
		c.Datum = impl.SwapSymbols(c.Datum, a, b)
	}
	kids := c.Kids
	c.Kids = nil
	for _, kid := range kids {
		c.Kids = append(c.Kids, withSwappedData(kid, a, b))
	}
	return c
}

// A hygieneCase has a source in which names that could be confused have the
// same text, and one in which they differ; both must expand to the same term.
type hygieneCase struct{ confusing, clear string }

func TestP5Cases(t *testing.T) {
	x := caseExpander(t)
	for _, c := range []hygieneCase{
		// What a macro introduces is not seen by its user.
		{"(lambda (t) (or 1 t))", "(lambda (n) (or 1 n))"}, {"(lambda (tmp y) (swap! tmp y))", "(lambda (n1 n2) (swap! n1 n2))"}, {"(lambda (loop) (while (loop) loop))", "(lambda (n) (while (n) n))"}, {"(lambda (t) (or 1 (or 2 t) t))", "(lambda (n) (or 1 (or 2 n) n))"}, {"(lambda (e x b) (let ((e x) (b e)) (e b)))", "(lambda (n1 n2 n3) (let ((n4 n2) (n5 n1)) (n4 n5)))"},
		{"(let-syntax ((m (syntax-rules () ((_ e) (lambda (x) e))))) (lambda (x) (m x)))", "(let-syntax ((m (syntax-rules () ((_ e) (lambda (z) e))))) (lambda (x) (m x)))"}, {"(let-syntax ((m (syntax-rules () ((_ e) (shift x e))))) (lambda (x) (m x)))", "(let-syntax ((m (syntax-rules () ((_ e) (shift z e))))) (lambda (x) (m x)))"}, {"(let-syntax ((m (syntax-rules () ((_ e) (local (x) e))))) (lambda (x) (m x)))", "(let-syntax ((m (syntax-rules () ((_ e) (local (z) e))))) (lambda (x) (m x)))"}, {"(let-syntax ((m (syntax-rules () ((_ e) (reset (define x 1) e))))) (lambda (x) (m x)))", "(let-syntax ((m (syntax-rules () ((_ e) (reset (define z 1) e))))) (lambda (x) (m x)))"}, {"(let-syntax ((m (syntax-rules () ((_ e) (reset (define (x) 1) e))))) (lambda (x) (m (x))))", "(let-syntax ((m (syntax-rules () ((_ e) (reset (define (z) 1) e))))) (lambda (x) (m (x))))"},
		{"(let-syntax ((m (syntax-rules () ((_ e) (let-syntax ((x (syntax-rules () ((_) 1)))) e))))) (lambda (x) (m (x))))", "(let-syntax ((m (syntax-rules () ((_ e) (let-syntax ((z (syntax-rules () ((_) 1)))) e))))) (lambda (x) (m (x))))"}, {"(let-syntax ((m (syntax-rules () ((_ e) (reset (define-syntax x (syntax-rules () ((_) 1))) e))))) (lambda (x) (m (x))))", "(let-syntax ((m (syntax-rules () ((_ e) (reset (define-syntax z (syntax-rules () ((_) 1))) e))))) (lambda (x) (m (x))))"},
		{"(let-syntax ((m (syntax-rules () ((_ n e) (lambda (x n) e))))) (lambda (x) (m y (x y))))", "(let-syntax ((m (syntax-rules () ((_ n e) (lambda (z n) e))))) (lambda (x) (m w (x w))))"}, {"(let-syntax ((m (syntax-rules () ((_ n e) (lambda (x) (lambda (n) (x e))))))) (m x x))", "(let-syntax ((m (syntax-rules () ((_ n e) (lambda (z) (lambda (n) (z e))))))) (m x x))"}, {"(let-syntax ((m (syntax-rules () ((_ n e) (lambda (n) (lambda (x) (x e))))))) (m x x))", "(let-syntax ((m (syntax-rules () ((_ n e) (lambda (n) (lambda (z) (z e))))))) (m x x))"},
		{"(lambda () (define x 1) (define-syntax m (syntax-rules () ((_) (define x 2)))) (m) (m) x)", "(lambda () (define x 1) (define-syntax m (syntax-rules () ((_) (define z 2)))) (m) (m) x)"},
		// What a macro refers to is what it was where it was written.
		{"(lambda (if) (or if 2))", "(lambda (n) (or n 2))"}, {"(lambda (let) (or 1 let))", "(lambda (n) (or 1 n))"}, {"(lambda (lambda) (let ((b lambda)) b))", "(lambda (n) (let ((b n)) b))"}, {"(lambda (set!) (keep set!))", "(lambda (n) (keep n))"}, {"(lambda (glob cons) (keep (glob cons)))", "(lambda (n1 n2) (keep (n1 n2)))"}, {"(lambda (begin) (cond (begin begin) (else begin)))", "(lambda (n) (cond (n n) (else n)))"}, {"(let* ((let 1) (let* let)) let*)", "(let* ((n1 1) (n2 n1)) n2)"}, {"(let-syntax ((if (syntax-rules () ((_ e) e)))) (or (if 1) 2))", "(let-syntax ((n (syntax-rules () ((_ e) e)))) (or (n 1) 2))"}, {"(lambda () (define if 1) (define (lambda) if) (or (lambda) if))", "(lambda () (define n1 1) (define (n2) n1) (or (n2) n1))"}, {"(lambda () (define-syntax let (syntax-rules () ((_ e) e))) (or (let 1) 2))", "(lambda () (define-syntax n (syntax-rules () ((_ e) e))) (or (n 1) 2))"},
		{"(lambda (x) (let-syntax ((m (syntax-rules () ((_) x)))) (lambda (x) (m))))", "(lambda (x) (let-syntax ((m (syntax-rules () ((_) x)))) (lambda (z) (m))))"}, {"(lambda (x) (let-syntax ((m (syntax-rules () ((_ e) (x e))))) (lambda (x) (m x))))", "(lambda (x) (let-syntax ((m (syntax-rules () ((_ e) (x e))))) (lambda (z) (m z))))"}, {"(lambda (x) (let-syntax ((m (syntax-rules () ((_ e) (set! x e))))) (shift x (m x))))", "(lambda (x) (let-syntax ((m (syntax-rules () ((_ e) (set! x e))))) (shift z (m z))))"}, {"(lambda (x) (let-syntax ((m (syntax-rules () ((_ e) (x e))))) (local (x) (m x))))", "(lambda (x) (let-syntax ((m (syntax-rules () ((_ e) (x e))))) (local (z) (m z))))"}, {"(lambda (x) (let-syntax ((m (syntax-rules () ((_) x)))) (let-syntax ((x (syntax-rules () ((_) 1)))) (car (m) (x)))))", "(lambda (x) (let-syntax ((m (syntax-rules () ((_) x)))) (let-syntax ((z (syntax-rules () ((_) 1)))) (car (m) (z)))))"}, {"(lambda (x) (let-syntax ((m (syntax-rules () ((_) x)))) (define x 2) (car x (m))))", "(lambda (x) (let-syntax ((m (syntax-rules () ((_) x)))) (define z 2) (car z (m))))"},
		{"(let-syntax ((m (syntax-rules () ((_) 1)))) (let-syntax ((n (syntax-rules () ((_) (m))))) (let-syntax ((m (syntax-rules () ((_) 2)))) (car (m) (n)))))", "(let-syntax ((m (syntax-rules () ((_) 1)))) (let-syntax ((n (syntax-rules () ((_) (m))))) (let-syntax ((k (syntax-rules () ((_) 2)))) (car (k) (n)))))"},
		// Names that go through macros stay what they are.
		{"(lambda (x) (let-syntax ((call (syntax-rules () ((_ m e ...) (m e ...))))) (call or x (call or x x))))", "(lambda (n) (or n (or n n)))"}, {"(lambda (else) (cond (else 1)))", "(lambda (n) (cond (n 1)))"}, {"(lambda (x) (cond (else x)))", "(lambda (else) (begin else))"}, {"(let ((quote car)) (quote 1))", "(let ((n car)) (n 1))"},
	} {
		first, _, code := checkExpression(t, x, mustReadForm(t, c.confusing))
		if code != impl.ExpandOk {
			t.Errorf("%s has the code %d", c.confusing, code)
		}
		if second, _, code := checkExpression(t, x, mustReadForm(t, c.clear)); code != impl.ExpandOk || !sameCore(first, second) {
			t.Errorf("%s expands to %s, and %s to %s", c.confusing, showCore(first), c.clear, outcome(second, code))
		}
	}
	checkExpressions(t, []expandCase{
		{"(lambda () (define-syntax m (syntax-rules () ((_ e) (begin (define x e) (car x))))) (define x 1) (m x) (m (m x)))", "definition in expression context"},
		{"(lambda () (define-syntax m (syntax-rules () ((_ e) (begin (define x e) (car x))))) (define x 1) (m x) (m x))", "(lambda () (local (v6 v7 v8) (set! v6 (quote 1)) (set! v7 v6) (car v7) (set! v8 v6) (car v8)))"},
		{"(let-syntax ((m (syntax-rules () ((_ n) (lambda (n) (let-syntax ((k (syntax-rules () ((_ n) (n x))))) (k car))))))) (lambda (x) (m x)))", "unbound identifier"},
		{"(let-syntax ((m (syntax-rules () ((_ n v) (let-syntax ((k (syntax-rules () ((_ e) (lambda (n) (v e)))))) (k n)))))) (lambda (x v) (m x v)))", "(lambda (v6 v7) (lambda (v8) (v7 v6)))"},
	})
}

// By the rules of chapter 7, a definition is bound without its use scopes, and
// a parameter with them: in what is an argument of a macro, a definition does
// not hide a parameter, and in a body that a macro makes, one may be seen by
// what the macro introduces beside it.
func TestDefinitionsWithoutUseScopes(t *testing.T) {
	checkExpressions(t, []expandCase{
		{"(lambda (x) (define x 1) x)", "(lambda (v6) (local (v7) (set! v7 (quote 1)) v7))"}, {"(let ((a 1)) (define a 2) a)", "ambiguous identifier"}, {"(let ((a 1)) (define b 2) a)", "((lambda (v6) (local (v7) (set! v7 (quote 2)) v6)) (quote 1))"}, {"(let () (define a 1) (let () (define a 2) a))", "((lambda () (local (v6) (set! v6 (quote 1)) ((lambda () (local (v7) (set! v7 (quote 2)) v7))))))"}, {"(let () (define a 1) (let ((a 2)) a))", "((lambda () (local (v6) (set! v6 (quote 1)) ((lambda (v7) v7) (quote 2)))))"}, {"(and (lambda (a) (define a 1) a))", "ambiguous identifier"},
		{"(letrec ((define 1) (b 2)) define)", "unbound identifier"}, {"(letrec ((b 2) (define 1)) define)", "((lambda () (local (v6 v7) (set! v6 (quote 2)) (set! v7 (quote 1)) ((lambda () v7)))))"}, {"(letrec ((let 1)) let)", "bad syntax"},
	})
}
