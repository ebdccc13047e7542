package tests

import (
	"slices"
	"strings"
	"testing"

	"loop.example/g03220/impl"
)

// sourceShapes has, for each letter, what it may stand for in a source: E an
// expression, A an atom, N a name, K a keyword, F a form of a body, B some of
// these, R rules and C a clause. Shapes that stand first are chosen where a
// source may not be deeper.
var sourceShapes = map[byte][]string{
	'A': {"N", "N", "N", "N", "N", "N", "N", "N", "N", "N", "1", "1", "2", "(quote N)", "(quote N)", "#t", "(car N)", "(N)", "()", "K"},
	'N': {"x", "y", "t", "f", "m", "a", "e", "glob", "car", "car", "+", "tmp", "x", "y"},
	'K': {"if", "let", "define", "begin", "lambda", "quote", "or", "else", "...", "_", "syntax-rules"},
	'E': {
		"A", "A", "A", "(N E)", "(N E E)", "(car E)", "(+ E E)", "(lambda (N) B)", "(lambda (N N) B)", "((lambda (N) B) E)", "(lambda () B)", "(if E E E)", "(set! N E)", "(begin E E)", "(begin E)", "(reset B)", "(shift N B)", "(local (N) E E)", "(local (N N) (set! N E) E)", "(let-syntax ((N R)) B)", "(let-syntax ((N R) (N R)) B)",
		"(let ((N E)) B)", "(let ((N E) (N E)) B)", "(let* ((N E) (N E)) B)", "(letrec ((N E)) B)", "(and E E)", "(or E E)", "(or E N)", "(when E E E)", "(cond (E E) (else E))", "(while E E)", "(swap! N N)", "(keep E)", "(quote (N E))", "(let () B)", "(let () B)", "((lambda (N N) B) E E)", "(E E)",
	},
	'F': {"E", "E", "(define N E)", "(define N E)", "(define (N N) B)", "(define (N) B)", "(define-syntax N R)", "(define-syntax N R)", "(begin F F)", "(begin)", "(m E)", "(m N E)", "(f N)", "E"},
	'B': {"E", "E", "F E", "F F E", "F F F E", "F"},
	'R': {"(syntax-rules () C)", "(syntax-rules () C C)", "(syntax-rules (N) C C)", "(syntax-rules () C)", "(syntax-rules (else) ((_ else e) e) C)"},
	'C': {"((_ a) E)", "((_ a e) F)", "((_ a) (define a E))", "((_ a e) (begin F (define a e)))", "((_ a e) (lambda (a) e))", "((_ a e ...) (begin e ... a))", "((_ (a e) ...) (let ((a e) ...) E))", "((_) E)", "((_ a) (define-syntax a R))", "((_ a) (let ((t a)) (+ t E)))", "((_ N) F)", "((_ a e) (a E e))", "((N a ...) (car a ...))", "((_ a ...) (f a ...))"},
}

// spoiledShapes stand now and then for a form that is as none may be.
var spoiledShapes = []string{"(if E E)", "(quote)", "(set! 5 E)", "(lambda N E)", "(lambda (5) E)", "(lambda (N))", "(define N)", "(define 5 E)", "(define (N 5) E)", "(define-syntax N E)", "(local () E)", "(let-syntax (N) E)", "(shift (N) E)", "(reset)", "(begin)", "(syntax-rules () C)", "(let E)", "(lambda (N N N) B)", "(x x x x x x x x x x)", "(set! K E)", "K", "(K E)", "(K)", "(K N E)"}

func (g *generator) source(letter byte, depth, spoiled int) string {
	shapes := sourceShapes[letter]
	shape := shapes[g.below(len(shapes))]
	switch {
	case depth <= 0 && (letter == 'E' || letter == 'F' || letter == 'B'):
		shape = "A"
	case spoiled > 0 && (letter == 'E' || letter == 'F') && g.below(spoiled) == 0:
		shape = spoiledShapes[g.below(len(spoiledShapes))]
	}
	var b strings.Builder
	for i := range len(shape) {
		if _, ok := sourceShapes[shape[i]]; ok {
			b.WriteString(g.source(shape[i], depth-1, spoiled))
		} else {
			b.WriteByte(shape[i])
		}
	}
	return b.String()
}

// sourceExpander returns the usual expander with variables for the names of
// sources.
func (g *generator) sourceExpander(usual impl.Expander) impl.Expander {
	x := usual
	x.Bindings = slices.Clone(usual.Bindings)
	x.Scope = g.below(12)
	for _, name := range []string{"x", "y", "f", "e", "tmp", "t", "a"} {
		if g.below(12) > 0 {
			x.Variable++
			x.Bindings = append(x.Bindings, variable(x.Variable, name))
		}
	}
	if g.below(4) == 0 && x.Scope > 2 {
		x.Bindings = append(x.Bindings, variable(x.Variable, "x", 1), variable(0, "x", 2), variable(1, "y", 1, 2))
	}
	if g.below(8) == 0 {
		x.Steps = g.below(6)
	}
	if g.below(12) == 0 {
		x.Scope = impl.MaxScope - g.below(40)
	}
	if g.below(20) == 0 {
		x.Variable = impl.MaxVariable - g.below(4)
	}
	return x
}

// withSomeScopes adds scopes that the expander knows to some symbols.
func (g *generator) withSomeScopes(s impl.Syntax, limit int) impl.Syntax {
	if s.Kind == impl.DatumSymbol && limit > 0 && g.below(12) == 0 {
		s.Scopes = []int{1 + g.below(limit)}
		if limit > 2 && g.below(2) == 0 {
			s.Scopes = []int{1, 2}
		}
	}
	for i := range s.Items {
		s.Items[i] = g.withSomeScopes(s.Items[i], limit)
	}
	return s
}

// Sources of any kind, good or not, expand as with the second expander.
func TestExpandAnySource(t *testing.T) {
	g := generator(163)
	usual := usualExpander(t)
	found := make([]int, 9)
	for i := range 2500 {
		x := g.sourceExpander(usual)
		spoiled := []int{0, 0, 30}[i%3]
		forms := mustReadForms(t, g.source('B', 3+i%4, spoiled))
		if i%5 == 0 {
			for j := range forms {
				forms[j] = g.withSomeScopes(forms[j], x.Scope)
			}
		}
		var code int
		if i%2 == 0 {
			_, _, code = checkBody(t, x, forms)
		} else {
			_, _, code = checkExpression(t, x, forms[len(forms)-1])
		}
		found[code]++
		checkStep(t, x, forms[0])
		if i%10 == 0 {
			checkTrace(t, x, forms[0])
		}
	}
	for code, n := range found {
		if n < 5 {
			t.Errorf("the code %d is found %d times", code, n)
		}
	}
	if found[impl.ExpandOk] < 500 {
		t.Errorf("only %d sources expand", found[impl.ExpandOk])
	}
}
