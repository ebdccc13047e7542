package tests

import (
	"fmt"
	"strings"
	"testing"

	"loop.example/g03220/impl"
)

// outcome writes the term of an expansion, or the text of its code.
func outcome(c impl.Core, code int) string {
	if code != impl.ExpandOk {
		return codeTexts[code]
	}
	return describedText(describedDatum(c))
}

// An expandCase is a source and its outcome with the usual macros, the
// variables glob (1), x (2) of the scopes 1 and 4, y (3), the ambiguous two of
// the scopes 1 and 2, and the last scope 9.
type expandCase struct{ source, want string }

func caseExpander(t *testing.T) impl.Expander {
	t.Helper()
	x := expanderOf(t, 9, usualMacros)
	x.Variable = 5
	x.Bindings = append(x.Bindings, variable(2, "x", 1, 4), variable(3, "y"), variable(4, "two", 1), variable(5, "two", 2), binding(impl.BindingForm, 2, "my-if"), binding(impl.BindingMacro, 3, "my-and", 1))
	return x
}

func checkExpressions(t *testing.T, cases []expandCase) {
	t.Helper()
	x := caseExpander(t)
	for _, c := range cases {
		s := mustReadForm(t, c.source)
		term, after, code := checkExpression(t, x, s)
		if got := outcome(term, code); got != c.want {
			t.Errorf("ExpandExpression(%s) = %s, not %s", c.source, got, c.want)
		}
		if code != impl.ExpandOk && (!isZeroCore(term) || !sameExpander(after, x)) {
			t.Errorf("ExpandExpression(%s) fails and returns %s and the %s", c.source, showCore(term), showExpander(after))
		}
	}
}

func TestExpandAtoms(t *testing.T) {
	checkExpressions(t, []expandCase{
		{"5", "(quote 5)"}, {"-999999999", "(quote -999999999)"}, {"#t", "(quote #t)"}, {"#f", "(quote #f)"}, {"\"s\"", "(quote \"s\")"}, {"\"\"", "(quote \"\")"},
		{"glob", "v1"}, {"glob{9}", "v1"}, {"x{1,4}", "v2"}, {"x{1,4,7}", "v2"}, {"y", "v3"}, {"y{2}", "v3"}, {"two{1}", "v4"}, {"two{2}", "v5"}, {"car", "car"}, {"-", "-"}, {"display{3}", "display"}, {"null?", "null?"},
		{"x", "unbound identifier"}, {"x{1}", "unbound identifier"}, {"x{4}", "unbound identifier"}, {"zz", "unbound identifier"}, {"...", "unbound identifier"}, {"_", "unbound identifier"}, {"v1", "unbound identifier"}, {"else", "unbound identifier"},
		{"two{1,2}", "ambiguous identifier"}, {"two{1,2,9}", "ambiguous identifier"}, {"two", "unbound identifier"},
		{"if", "bad syntax"}, {"my-if", "bad syntax"}, {"quote", "bad syntax"}, {"define", "bad syntax"}, {"define-syntax", "bad syntax"}, {"syntax-rules", "bad syntax"}, {"let", "bad syntax"}, {"and{3}", "bad syntax"}, {"my-and{1}", "bad syntax"}, {"my-and", "unbound identifier"},
		{"()", "bad syntax"}, {"glob{10}", "bad syntax"}, {"zz{10}", "bad syntax"}, {"(quote a{10})", "bad syntax"},
	})
}

func TestExpandApplications(t *testing.T) {
	checkExpressions(t, []expandCase{
		{"(glob)", "(v1)"}, {"(glob 1)", "(v1 (quote 1))"}, {"(car y)", "(car v3)"}, {"(car car car)", "(car car car)"}, {"(5)", "((quote 5))"}, {"(\"s\" 1)", "((quote \"s\") (quote 1))"}, {"((car y) 1)", "((car v3) (quote 1))"}, {"(((glob)))", "(((v1)))"},
		{"(+ 1 2 3 4 5 6 7 8)", "(+ (quote 1) (quote 2) (quote 3) (quote 4) (quote 5) (quote 6) (quote 7) (quote 8))"}, {"(+ 1 2 3 4 5 6 7 8 9)", "too large"}, {"(+ 1 2 3 4 5 6 7 8 9 10)", "too large"},
		{"(+ 1 2 3 4 5 6 7 8 zz)", "unbound identifier"}, {"(zz 1 2 3 4 5 6 7 8 9)", "unbound identifier"}, {"(+ 1 2 3 4 5 6 7 8 ())", "bad syntax"}, {"(+ (+ 1 2 3 4 5 6 7 8 9) zz)", "too large"}, {"(+ zz (+ 1 2 3 4 5 6 7 8 9))", "unbound identifier"},
		{"(zz)", "unbound identifier"}, {"(zz ())", "unbound identifier"}, {"(() zz)", "bad syntax"}, {"(glob zz ())", "unbound identifier"}, {"(glob () zz)", "bad syntax"}, {"(two{1,2} 1)", "ambiguous identifier"}, {"(two{1} 1)", "(v4 (quote 1))"}, {"(glob (two{1,2}))", "ambiguous identifier"},
		{"(glob if)", "bad syntax"}, {"(glob let)", "bad syntax"}, {"(x 1)", "unbound identifier"}, {"(x{1,4,5} 1)", "(v2 (quote 1))"}, {"((if) 1)", "bad syntax"}, {"((lambda (a) a) 1)", "((lambda (v6) v6) (quote 1))"},
		{"(and)", "(quote #t)"}, {"(and 1)", "(quote 1)"}, {"(and glob y)", "(if v1 v3 (quote #f))"}, {"(and{9} 1)", "(quote 1)"}, {"(my-and{1} 1 y)", "(if (quote 1) v3 (quote #f))"}, {"(my-and 1)", "unbound identifier"}, {"((and car) y)", "(car v3)"},
		{"(let)", "no matching rule"}, {"(let x)", "no matching rule"}, {"(and (let))", "no matching rule"}, {"(glob zz (let))", "unbound identifier"}, {"(glob (let) zz)", "no matching rule"},
	})
}

func TestExpandQuote(t *testing.T) {
	checkExpressions(t, []expandCase{
		{"(quote a)", "(quote a)"}, {"(quote a{1,4})", "(quote a)"}, {"(quote ())", "(quote ())"}, {"(quote (a{1} (b 5 \"s\" #t) if))", "(quote (a (b 5 \"s\" #t) if))"}, {"(quote (quote x))", "(quote (quote x))"}, {"(quote{3} zz)", "(quote zz)"}, {"(quote 7)", "(quote 7)"}, {"(quote (let))", "(quote (let))"},
		{"(quote)", "bad syntax"}, {"(quote a b)", "bad syntax"}, {"(quote a b c)", "bad syntax"}, {"(quote () ())", "bad syntax"},
		{"(let ((z 1)) (quote z))", "((lambda (v6) (quote z)) (quote 1))"}, {"(lambda (if) (quote if))", "(lambda (v6) (quote if))"},
	})
	x := caseExpander(t)
	for _, c := range []struct {
		s    impl.Syntax
		code int
	}{
		{form(leaves(599)...), impl.ExpandOk}, {form(leaves(600)...), impl.ExpandLarge}, {form(leaves(1997)...), impl.ExpandLarge}, {form(leaves(1998)...), impl.ExpandSyntax}, {nestedForms(20), impl.ExpandOk}, {nestedForms(21), impl.ExpandLarge}, {nestedForms(39), impl.ExpandLarge}, {nestedForms(40), impl.ExpandSyntax},
		{form(form(leaves(598)...)), impl.ExpandOk}, {form(form(leaves(599)...)), impl.ExpandLarge},
	} {
		term, _, code := checkExpression(t, x, form(identifier("quote"), c.s))
		if code != c.code || code == impl.ExpandOk && !sameDatum(term.Datum, withoutScopes(c.s)) {
			t.Errorf("a constant of %d nodes has the code %d, not %d", impl.CountSyntax(c.s), code, c.code)
		}
	}
}

func TestExpandSimpleForms(t *testing.T) {
	checkExpressions(t, []expandCase{
		{"(if 1 2 3)", "(if (quote 1) (quote 2) (quote 3))"}, {"(my-if glob (if 1 2 3) (car y))", "(if v1 (if (quote 1) (quote 2) (quote 3)) (car v3))"},
		{"(if)", "bad syntax"}, {"(if 1)", "bad syntax"}, {"(if 1 2)", "bad syntax"}, {"(if 1 2 3 4)", "bad syntax"}, {"(if zz)", "bad syntax"}, {"(if zz 1 2)", "unbound identifier"}, {"(if 1 () zz)", "bad syntax"}, {"(if 1 zz ())", "unbound identifier"}, {"(if 1 2 (let))", "no matching rule"},
		{"(set! glob 1)", "(set! v1 (quote 1))"}, {"(set! x{1,4} (car y))", "(set! v2 (car v3))"}, {"(set! two{2} glob)", "(set! v5 v1)"}, {"(set! y (set! y y))", "(set! v3 (set! v3 v3))"}, {"(set! glob (begin 1 2))", "(set! v1 (begin (quote 1) (quote 2)))"},
		{"(set!)", "bad syntax"}, {"(set! glob)", "bad syntax"}, {"(set! glob 1 2)", "bad syntax"}, {"(set! 5 1)", "bad syntax"}, {"(set! (glob) 1)", "bad syntax"}, {"(set! () 1)", "bad syntax"}, {"(set! \"glob\" 1)", "bad syntax"}, {"(set! #t zz)", "bad syntax"},
		{"(set! car 1)", "bad syntax"}, {"(set! if 1)", "bad syntax"}, {"(set! let 1)", "bad syntax"}, {"(set! car zz)", "bad syntax"}, {"(set! zz 1)", "unbound identifier"}, {"(set! x 1)", "unbound identifier"}, {"(set! two{1,2} 1)", "ambiguous identifier"}, {"(set! zz ())", "unbound identifier"}, {"(set! two{1,2} zz)", "ambiguous identifier"}, {"(set! glob zz)", "unbound identifier"}, {"(set! glob ())", "bad syntax"}, {"(set! zz)", "bad syntax"},
		{"(begin 1)", "(quote 1)"}, {"(begin (begin glob))", "v1"}, {"(begin 1 2)", "(begin (quote 1) (quote 2))"}, {"(begin (begin 1 2))", "(begin (quote 1) (quote 2))"}, {"(begin 1 (begin 2 (begin 3 4)) 5)", "(begin (quote 1) (quote 2) (quote 3) (quote 4) (quote 5))"}, {"(begin (begin 1) (begin 2))", "(begin (quote 1) (quote 2))"}, {"(begin (if (begin 1 2) 3 4) 5)", "(begin (if (begin (quote 1) (quote 2)) (quote 3) (quote 4)) (quote 5))"},
		{"(begin)", "bad syntax"}, {"(begin (begin))", "bad syntax"}, {"(begin zz ())", "unbound identifier"}, {"(begin () zz)", "bad syntax"}, {"(begin 1 (define z 1))", "definition in expression context"}, {"(begin (and 1 2) (keep 3))", "(begin (if (quote 1) (quote 2) (quote #f)) (set! v1 (quote 3)) (cons v1 (quote 3)))"},
		{"(begin (lambda () 1 2) (reset 3 4))", "(begin (lambda () (begin (quote 1) (quote 2))) (reset (begin (quote 3) (quote 4))))"},
		{"(reset 1)", "(reset (quote 1))"}, {"(reset 1 2)", "(reset (begin (quote 1) (quote 2)))"}, {"(reset (define a 1) a)", "(reset (local (v6) (set! v6 (quote 1)) v6))"}, {"(reset (begin 1 2))", "(reset (begin (quote 1) (quote 2)))"}, {"(reset (begin) 1)", "(reset (quote 1))"},
		{"(reset)", "bad syntax"}, {"(reset (begin))", "bad syntax"}, {"(reset (define a 1))", "bad syntax"}, {"(reset zz)", "unbound identifier"}, {"(reset zz (define a))", "bad syntax"},
		{"(syntax-rules)", "bad syntax"}, {"(syntax-rules () ((_) 1))", "bad syntax"}, {"(define a 1)", "definition in expression context"}, {"(define)", "definition in expression context"}, {"(define 5 zz 6)", "definition in expression context"}, {"(define-syntax m (syntax-rules () ((_) 1)))", "definition in expression context"}, {"(define-syntax)", "definition in expression context"}, {"(if (define a 1) zz 1)", "definition in expression context"},
	})
}

func TestExpandBinders(t *testing.T) {
	checkExpressions(t, []expandCase{
		{"(lambda () 1)", "(lambda () (quote 1))"}, {"(lambda (a) a)", "(lambda (v6) v6)"}, {"(lambda (a b) (b a))", "(lambda (v6 v7) (v7 v6))"}, {"(lambda (a) 1 a)", "(lambda (v6) (begin (quote 1) v6))"}, {"(lambda (a) (lambda (b) (a b)))", "(lambda (v6) (lambda (v7) (v6 v7)))"}, {"(lambda (a) (lambda (a) a))", "(lambda (v6) (lambda (v7) v7))"}, {"((lambda (a) a) (lambda (a) a))", "((lambda (v6) v6) (lambda (v7) v7))"},
		{"(lambda (glob) glob)", "(lambda (v6) v6)"}, {"(lambda (x) x{1,4})", "ambiguous identifier"}, {"(lambda (x{1,4}) x{1,4})", "(lambda (v6) v6)"}, {"(lambda (x x{1}) (x x{1}))", "(lambda (v6 v7) (v6 v7))"}, {"(lambda (if) (if 1 2))", "(lambda (v6) (v6 (quote 1) (quote 2)))"}, {"(lambda (lambda) (lambda lambda))", "(lambda (v6) (v6 v6))"}, {"(lambda (car) car)", "(lambda (v6) v6)"}, {"(lambda (let) (let 1))", "(lambda (v6) (v6 (quote 1)))"}, {"(lambda (... _) (... _))", "(lambda (v6 v7) (v6 v7))"},
		{"(lambda (a b c d e f g h) h)", "(lambda (v6 v7 v8 v9 v10 v11 v12 v13) v13)"}, {"(lambda (a b c d e f g h i) i)", "too large"}, {"(lambda (a a a a a a a a a) i)", "too large"}, {"(lambda (a b c d e f g h 9) i)", "bad syntax"}, {"(lambda (a b c d e f g h i 9) i)", "bad syntax"}, {"(lambda (a a 9) i)", "bad syntax"}, {"(lambda (a b a) zz)", "duplicate definition"}, {"(lambda (a a) ())", "duplicate definition"}, {"(lambda (a{1} a{1}) 1)", "duplicate definition"},
		{"(lambda)", "bad syntax"}, {"(lambda ())", "bad syntax"}, {"(lambda (a))", "bad syntax"}, {"(lambda a a)", "bad syntax"}, {"(lambda 5 5)", "bad syntax"}, {"(lambda \"a\" 5)", "bad syntax"}, {"(lambda ((a)) a)", "bad syntax"}, {"(lambda (5) 5)", "bad syntax"}, {"(lambda (()) 5)", "bad syntax"}, {"(lambda (#t) zz)", "bad syntax"}, {"(lambda (\"a\") 1)", "bad syntax"}, {"(lambda (a) zz)", "unbound identifier"}, {"(lambda (a) (define a 1) a)", "(lambda (v6) (local (v7) (set! v7 (quote 1)) v7))"}, {"(lambda (a) (define b 1))", "bad syntax"}, {"(lambda (a) (begin))", "bad syntax"},
		{"(shift k 1)", "(shift v6 (quote 1))"}, {"(shift k (k 1) k)", "(shift v6 (begin (v6 (quote 1)) v6))"}, {"(shift k (define a k) a)", "(shift v6 (local (v7) (set! v7 v6) v7))"}, {"(reset (+ 1 (shift k (k (k 2)))))", "(reset (+ (quote 1) (shift v6 (v6 (v6 (quote 2))))))"}, {"(shift glob glob)", "(shift v6 v6)"}, {"(shift shift shift)", "(shift v6 v6)"},
		{"(shift)", "bad syntax"}, {"(shift k)", "bad syntax"}, {"(shift 5 1)", "bad syntax"}, {"(shift () 1)", "bad syntax"}, {"(shift (k) 1)", "bad syntax"}, {"(shift \"k\" 1)", "bad syntax"}, {"(shift k zz)", "unbound identifier"}, {"(shift k (begin))", "bad syntax"}, {"(shift (k) zz)", "bad syntax"},
		{"(local (a) 1)", "(local (v6) (quote 1))"}, {"(local (a b) (set! a b) 2 a)", "(local (v6 v7) (set! v6 v7) (quote 2) v6)"}, {"(local (a) (begin 1 2) 3)", "(local (v6) (begin (quote 1) (quote 2)) (quote 3))"}, {"(local (a) (begin a))", "(local (v6) v6)"}, {"(local (local) (local local))", "(local (v6) (v6 v6))"}, {"(local (a) (local (a) a))", "(local (v6) (local (v7) v7))"},
		{"(local)", "bad syntax"}, {"(local (a))", "bad syntax"}, {"(local ())", "bad syntax"}, {"(local () 1)", "bad syntax"}, {"(local a a)", "bad syntax"}, {"(local 5 1)", "bad syntax"}, {"(local (5) 1)", "bad syntax"}, {"(local ((a)) 1)", "bad syntax"}, {"(local (a a) zz)", "duplicate definition"}, {"(local (a) (define b 1) b)", "definition in expression context"}, {"(local (a) (begin))", "bad syntax"}, {"(local (a) zz ())", "unbound identifier"}, {"(local (a b c d e f g h i) i)", "(local (v6 v7 v8 v9 v10 v11 v12 v13 v14) v14)"},
	})
}

// symbols returns this number of different symbols, as text.
func symbols(n int) string {
	var b strings.Builder
	for i := range n {
		fmt.Fprintf(&b, "s%d ", i)
	}
	return b.String()
}

func TestExpandManyKids(t *testing.T) {
	one := func(n int) string { return strings.Repeat(" 1", n) }
	x := caseExpander(t)
	for _, c := range []struct {
		source string
		code   int
	}{
		{"(local (" + symbols(60) + ") 1)", impl.ExpandOk}, {"(local (" + symbols(61) + ") 1)", impl.ExpandLarge}, {"(local (" + symbols(61) + "5) 1)", impl.ExpandSyntax}, {"(local (" + strings.Repeat("a ", 61) + ") 1)", impl.ExpandLarge}, {"(local (" + strings.Repeat("a ", 60) + ") 1)", impl.ExpandDuplicate},
		{"(local (a)" + one(60) + ")", impl.ExpandOk}, {"(local (a)" + one(61) + ")", impl.ExpandLarge}, {"(local (a)" + one(60) + " zz)", impl.ExpandUnbound}, {"(local (a)" + one(61) + " ())", impl.ExpandSyntax}, {"(local (" + symbols(60) + ")" + one(60) + ")", impl.ExpandOk}, {"(local (" + symbols(61) + ")" + one(61) + ")", impl.ExpandLarge},
		{"(begin" + one(60) + ")", impl.ExpandOk}, {"(begin" + one(61) + ")", impl.ExpandLarge}, {"(begin" + one(60) + " zz)", impl.ExpandUnbound}, {"(begin (begin" + one(30) + ") (begin" + one(30) + "))", impl.ExpandOk}, {"(begin (begin" + one(30) + ") (begin" + one(31) + "))", impl.ExpandLarge}, {"(begin (begin" + one(61) + ") zz)", impl.ExpandLarge}, {"(begin zz (begin" + one(61) + "))", impl.ExpandUnbound}, {"(begin (begin" + one(60) + "))", impl.ExpandOk}, {"(begin 1 (begin" + one(60) + "))", impl.ExpandLarge}, {"(begin 1 (if (begin" + one(60) + ") 1 1))", impl.ExpandOk},
		{"(lambda ()" + one(60) + ")", impl.ExpandOk}, {"(lambda ()" + one(61) + ")", impl.ExpandLarge}, {"(lambda ()" + one(60) + "(begin 1))", impl.ExpandLarge}, {"(lambda ()" + one(58) + "(begin) (begin 1 2) (begin (begin)))", impl.ExpandOk}, {"(reset" + one(61) + ")", impl.ExpandLarge}, {"(reset" + one(59) + " (and 1))", impl.ExpandOk}, {"(shift k" + one(60) + ")", impl.ExpandOk}, {"(shift k" + one(61) + ")", impl.ExpandLarge},
		{"(lambda () (define a 1)" + one(59) + ")", impl.ExpandOk}, {"(lambda () (define a 1)" + one(60) + ")", impl.ExpandLarge}, {"(lambda () (define a 1)" + one(59) + " zz)", impl.ExpandUnbound}, {"(lambda () (define a 1)" + one(58) + "(if (begin 1 2) 1 1))", impl.ExpandOk},
		// A sequence among definitions is one kid.
		{"(lambda () (define a (begin 1 2))" + one(58) + "(and 1))", impl.ExpandOk}, {"(lambda () (define a 1) (define b (begin" + one(61) + ")) 1)", impl.ExpandLarge},
	} {
		if term, _, code := checkExpression(t, x, mustReadForm(t, c.source)); code != c.code {
			t.Errorf("ExpandExpression(%.300s) = %s, not %d", c.source, outcome(term, code), c.code)
		}
	}
}

func TestExpandLetSyntax(t *testing.T) {
	one := "(m (syntax-rules () ((_) 1)))"
	checkExpressions(t, []expandCase{
		{"(let-syntax () 1)", "(quote 1)"}, {"(let-syntax () 1 2)", "(begin (quote 1) (quote 2))"}, {"(let-syntax () (define a 1) a)", "(local (v6) (set! v6 (quote 1)) v6)"}, {"(let-syntax (" + one + ") (m))", "(quote 1)"}, {"(let-syntax (" + one + ") m)", "bad syntax"}, {"(let-syntax (" + one + ") (m 1))", "no matching rule"}, {"(let-syntax (" + one + " (n (syntax-rules () ((_ e) (e m))))) (n car))", "unbound identifier"},
		// The rules do not see the names, the body does.
		{"(let-syntax ((m (syntax-rules () ((_ e) (m e))))) (m 1))", "unbound identifier"}, {"(let-syntax ((and (syntax-rules () ((_ e) (and e e))))) (and glob))", "(if v1 v1 (quote #f))"}, {"(let-syntax ((if (syntax-rules () ((_ e) (if e 1 2))))) (if 3))", "(if (quote 3) (quote 1) (quote 2))"}, {"(let-syntax ((glob (syntax-rules () ((_) glob)))) (glob))", "v1"},
		{"(let-syntax ((m (syntax-rules () ((_ e) (lambda (z) (e z)))))) (lambda (z) (m z)))", "(lambda (v6) (lambda (v7) (v6 v7)))"}, {"(let-syntax ((m (my-rules () ((_) 1)))) (m))", "bad syntax"},
		{"(let-syntax)", "bad syntax"}, {"(let-syntax ())", "bad syntax"}, {"(let-syntax (" + one + "))", "bad syntax"}, {"(let-syntax m 1)", "bad syntax"}, {"(let-syntax 5 1)", "bad syntax"}, {"(let-syntax (m) 1)", "bad syntax"}, {"(let-syntax ((m)) 1)", "bad syntax"}, {"(let-syntax (()) 1)", "bad syntax"}, {"(let-syntax ((m (syntax-rules () ((_) 1)) 1)) 1)", "bad syntax"}, {"(let-syntax ((5 (syntax-rules () ((_) 1)))) 1)", "bad syntax"}, {"(let-syntax (((m) (syntax-rules () ((_) 1)))) 1)", "bad syntax"}, {"(let-syntax ((m 1)) 1)", "bad syntax"}, {"(let-syntax ((m (syntax-rules))) 1)", "bad syntax"}, {"(let-syntax ((m (syntax-rules ()))) 1)", "bad syntax"}, {"(let-syntax ((m (syntax-rules () ((_ ...) 1)))) 1)", "bad syntax"}, {"(let-syntax ((m let)) 1)", "bad syntax"},
		{"(let-syntax (" + one + one + ") 1)", "duplicate definition"}, {"(let-syntax (" + one + one + "(m)) 1)", "bad syntax"}, {"(let-syntax (" + one + one + ") zz)", "duplicate definition"}, {"(let-syntax (" + one + "(n (syntax-rules () ((_) 2)))) (+ (m) (n)))", "(+ (quote 1) (quote 2))"}, {"(let-syntax (" + one + ") zz)", "unbound identifier"}, {"(let-syntax (" + one + ") (begin))", "bad syntax"}, {"(let-syntax (" + one + ") (define a 1))", "bad syntax"}, {"(let-syntax (" + one + ") (define m 2) (begin m))", "(local (v6) (set! v6 (quote 2)) v6)"},
		{"(let-syntax (" + one + ") (let-syntax ((m (syntax-rules () ((_) 2)))) (m)))", "(quote 2)"}, {"(lambda (syntax-rules) (let-syntax (" + one + ") 1))", "bad syntax"}, {"(begin (let-syntax (" + one + ") (m) 2) 3)", "(begin (quote 1) (quote 2) (quote 3))"},
		{"(lambda () (let-syntax (" + one + ") (define a (m)) a) 2)", "(lambda () (begin (local (v6) (set! v6 (quote 1)) v6) (quote 2)))"},
	})
}

func TestExpandUsualMacros(t *testing.T) {
	checkExpressions(t, []expandCase{
		{"(let () 1)", "((lambda () (quote 1)))"}, {"(let ((a 1) (b 2)) (+ a b))", "((lambda (v6 v7) (+ v6 v7)) (quote 1) (quote 2))"}, {"(let ((a 1)) (let ((a a)) a))", "((lambda (v6) ((lambda (v7) v7) v6)) (quote 1))"},
		{"(let* ((a 1) (a (+ a 1))) a)", "((lambda (v6) ((lambda (v7) ((lambda () v7))) (+ v6 (quote 1)))) (quote 1))"}, {"(letrec ((f (lambda (n) (f n)))) (f 1))", "((lambda () (local (v6) (set! v6 (lambda (v7) (v6 v7))) ((lambda () (v6 (quote 1)))))))"},
		{"(let ((tmp 1)) (or #f tmp))", "((lambda (v6) ((lambda (v7) (if v7 v7 v6)) (quote #f))) (quote 1))"}, {"(let ((t 1)) (or #f t))", "((lambda (v6) ((lambda (v7) (if v7 v7 v6)) (quote #f))) (quote 1))"}, {"(let ((if car)) (or #f if))", "((lambda (v6) ((lambda (v7) (if v7 v7 v6)) (quote #f))) car)"}, {"(let ((let 1) (t 2)) (or t let))", "((lambda (v6 v7) ((lambda (v8) (if v8 v8 v6)) v7)) (quote 1) (quote 2))"},
		{"(lambda (tmp other) (swap! tmp other))", "(lambda (v6 v7) ((lambda (v8) (begin (set! v6 v7) (set! v7 v8))) v6))"}, {"(lambda (loop) (while loop (loop)))", "(lambda (v6) ((lambda () (local (v7) (set! v7 (lambda () (if v6 (begin (v6) (v7)) (quote #f)))) (v7)))))"},
		{"(cond)", "(quote #f)"}, {"(cond (else 1 2))", "(begin (quote 1) (quote 2))"}, {"(cond (glob 1) (else 2))", "(if v1 (quote 1) (quote 2))"}, {"(cond (else 1) (2 3))", "unbound identifier"}, {"(lambda (else) (cond (else 1)))", "(lambda (v6) (if v6 (quote 1) (quote #f)))"}, {"(cond (1))", "bad syntax"}, {"(when 1)", "bad syntax"}, {"(when glob 1 2)", "(if v1 (begin (quote 1) (quote 2)) (quote #f))"},
		{"(lambda (glob) (keep glob))", "(lambda (v6) (begin (set! v1 v6) (cons v1 v6)))"}, {"(lambda (cons set! begin) (keep cons))", "(lambda (v6 v7 v8) (begin (set! v1 v6) (cons v1 v6)))"},
		{"(let ((a 1) (a 2)) a)", "duplicate definition"}, {"(let ((5 1)) 1)", "bad syntax"}, {"(letrec ((a 1) (a 2)) a)", "duplicate definition"}, {"(let ((a 1)))", "bad syntax"}, {"(let ((a zz)) (let))", "no matching rule"},
	})
}

// The count of expressions, with the results of macro steps and the forms of
// bodies, may be MaxCore.
func TestExpandCounts(t *testing.T) {
	x := expanderOf(t, 0, usualMacros+"(define-syntax one (syntax-rules () ((_) 1)))(define-syntax twice (syntax-rules () ((_ e) (+ e e))))")
	// Applications of this many expressions.
	var application func(n int) impl.Syntax
	application = func(n int) impl.Syntax {
		if n == 1 {
			return plain(number(1))
		}
		s := form()
		for left := n - 1; left > 0; {
			part := min(left, (n+7)/9)
			s.Items = append(s.Items, application(part))
			left -= part
		}
		return s
	}
	for _, c := range []struct {
		more  string
		count int // of what is more
	}{
		{"1", 2}, {"(begin)", 1}, {"(begin (begin) (begin))", 3}, {"(one)", 3}, {"(begin (one) 1)", 6}, {"(+ 1 (one))", 6}, {"(define (f) 1)", 3}, {"(define (f a b) (define c 1) 2)", 5}, {"(define d 1)", 2}, {"(define-syntax m (syntax-rules () ((_) 1)))", 1},
		{"(set! glob 1)", 3}, {"(lambda (a) 1)", 4}, {"(reset 1 1)", 6}, {"(shift k 1)", 4}, {"(local (a b) 1 1)", 4}, {"(let-syntax ((m (syntax-rules () ((_) 1)))) (m))", 5}, {"(quote (1 2 3))", 2}, {"(if 1 (one) 1)", 6}, {"(let () 1)", 6},
	} {
		for _, extra := range []int{0, 1} {
			half := 700
			last := 3000 + extra - c.count - (4 + 2*half) - 1
			forms := []impl.Syntax{mustReadForm(t, c.more), form(identifier("twice"), application(half)), application(last)}
			term, _, code := checkBody(t, x, forms)
			if extra == 0 && code != impl.ExpandOk || extra == 1 && code != impl.ExpandLarge {
				t.Errorf("a count of %d with %s has the code %d, size %d", 3000+extra, c.more, code, impl.SizeOfCore(term))
			}
		}
	}
}
