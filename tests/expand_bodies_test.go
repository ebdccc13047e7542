package tests

import (
	"strings"
	"testing"

	"loop.example/g03220/impl"
)

func checkBodies(t *testing.T, x impl.Expander, cases []expandCase) {
	t.Helper()
	for _, c := range cases {
		var forms []impl.Syntax
		if c.source != "" {
			forms = mustReadForms(t, c.source)
		}
		term, after, code := checkBody(t, x, forms)
		if got := outcome(term, code); got != c.want {
			t.Errorf("ExpandBody(%s) = %s, not %s", c.source, got, c.want)
		}
		if code != impl.ExpandOk && (!isZeroCore(term) || !sameExpander(after, x)) {
			t.Errorf("ExpandBody(%s) fails and returns %s and the %s", c.source, showCore(term), showExpander(after))
		}
	}
}

func TestExpandBody(t *testing.T) {
	checkBodies(t, caseExpander(t), []expandCase{
		{"", "bad syntax"}, {"1", "(quote 1)"}, {"glob", "v1"}, {"1 2", "(begin (quote 1) (quote 2))"}, {"zz", "unbound identifier"}, {"()", "bad syntax"}, {"if", "bad syntax"}, {"two{1,2}", "ambiguous identifier"}, {"(two{1,2})", "ambiguous identifier"}, {"1 (and 2) (begin 3 4)", "(begin (quote 1) (quote 2) (quote 3) (quote 4))"},
		{"(begin)", "bad syntax"}, {"(begin) (begin (begin) (begin))", "bad syntax"}, {"(begin) 1 (begin)", "(quote 1)"}, {"(begin (begin 1) 2)", "(begin (quote 1) (quote 2))"}, {"(begin (define a 1)) a", "(local (v6) (set! v6 (quote 1)) v6)"}, {"(begin (define a 1) a)", "(local (v6) (set! v6 (quote 1)) v6)"}, {"(begin 1 (define a 1))", "bad syntax"},
		{"(define a 1) a", "(local (v6) (set! v6 (quote 1)) v6)"}, {"(define (f) 1) (f)", "(local (v6) (set! v6 (lambda () (quote 1))) (v6))"}, {"(define (f a b) 1 (a b)) f", "(local (v6) (set! v6 (lambda (v7 v8) (begin (quote 1) (v7 v8)))) v6)"}, {"(define (f f) f) f", "(local (v6) (set! v6 (lambda (v7) v7)) v6)"},
		// All names are bound before anything is expanded.
		{"(f a) (define (f a) (g a)) (define (g a) (f a)) (define a f) 3", "(local (v6 v7 v8) (v6 v8) (set! v6 (lambda (v9) (v7 v9))) (set! v7 (lambda (v10) (v6 v10))) (set! v8 v6) (quote 3))"}, {"car (define car 1) car", "(local (v6) v6 (set! v6 (quote 1)) v6)"}, {"(define glob glob) glob", "(local (v6) (set! v6 v6) v6)"},
		{"1 (define a 2) 3 (define b a) 4", "(local (v6 v7) (quote 1) (set! v6 (quote 2)) (quote 3) (set! v7 v6) (quote 4))"}, {"(define a (begin 1 2)) (if a (begin 3 4) 5)", "(local (v6) (set! v6 (begin (quote 1) (quote 2))) (if v6 (begin (quote 3) (quote 4)) (quote 5)))"},
		{"(define a 1)", "bad syntax"}, {"1 (define a 1)", "bad syntax"}, {"(define a zz)", "bad syntax"}, {"zz (define a 1)", "bad syntax"}, {"(define a zz) 1", "unbound identifier"}, {"(define a 1) (define (f) a)", "bad syntax"}, {"(define a 1) (begin)", "bad syntax"},
		{"(define a 1) (define a 2) a", "duplicate definition"}, {"(define a 1) (define (a) 2) a", "duplicate definition"}, {"(define a zz) (define a 2)", "duplicate definition"}, {"(define a 1) (define-syntax a (syntax-rules () ((_) 1))) a", "duplicate definition"}, {"(define-syntax a (syntax-rules () ((_) 1))) (define-syntax a (syntax-rules () ((_) 1))) 1", "duplicate definition"}, {"(define a{1} 1) (define a 2) (+ a a{1})", "(local (v6 v7) (set! v6 (quote 1)) (set! v7 (quote 2)) (+ v7 v6))"},
		{"(define) 1", "bad syntax"}, {"(define a) 1", "bad syntax"}, {"(define a 1 2) 1", "bad syntax"}, {"(define 5 1) 1", "bad syntax"}, {"(define \"a\" 1) 1", "bad syntax"}, {"(define #t 1) 1", "bad syntax"}, {"(define () 1) 1", "bad syntax"}, {"(define (f)) 1", "bad syntax"}, {"(define ((f) a) 1) 1", "bad syntax"}, {"(define (5) 1) 1", "bad syntax"}, {"(define (f 5) 1) 1", "bad syntax"}, {"(define (f ()) 1) 1", "bad syntax"}, {"(define (f (a)) 1) 1", "bad syntax"}, {"zz (define)", "bad syntax"}, {"zz (define (f)) 1", "bad syntax"}, {"zz (define a) 1", "bad syntax"}, {"zz (define (f 5) 1) 1", "bad syntax"}, {"zz (define () 1) 1", "bad syntax"}, {"zz (define a 1 2) 1", "bad syntax"}, {"(define a)", "bad syntax"}, {"(define (f \"a\") zz) 1", "bad syntax"},
		{"(define (f a a) 1) 2", "duplicate definition"}, {"(define (f a b c d e g h i) 1) 2", "(local (v6) (set! v6 (lambda (v7 v8 v9 v10 v11 v12 v13 v14) (quote 1))) (quote 2))"}, {"(define (f a b c d e g h i j) 1) 2", "too large"}, {"(define (f a b c d e g h i 5) 1) 2", "bad syntax"}, {"zz (define (f a b c d e g h i j) 1) 2", "unbound identifier"}, {"(define (f a a) 1) (define f 1) 2", "duplicate definition"}, {"(define (f) (define g 1)) 2", "bad syntax"}, {"(define (f) (begin)) 2", "bad syntax"},
		{"(define (f) (define a 1) a) (define a 2) (f a)", "(local (v6 v7) (set! v6 (lambda () (local (v8) (set! v8 (quote 1)) v8))) (set! v7 (quote 2)) (v6 v7))"},
		{"(define define 1) (define define 2)", "(local (v6) (set! v6 (quote 1)) (v6 v6 (quote 2)))"}, {"(define begin 1) (begin begin)", "(local (v6) (set! v6 (quote 1)) (v6 v6))"}, {"(lambda (define) (define define 1) 2)", "(lambda (v6) (begin (v6 v6 (quote 1)) (quote 2)))"},
		{"(define x 1) x{1,4}", "ambiguous identifier"}, {"(define x{1,4} 1) x{1,4}", "(local (v6) (set! v6 (quote 1)) v6)"},
		{"(let-syntax () (define a 1) 2) a", "unbound identifier"}, {"(if 1 (define a 2) 3)", "definition in expression context"}, {"((define a 1))", "definition in expression context"},
	})
}

func TestExpandMacrosInBodies(t *testing.T) {
	m := "(define-syntax m (syntax-rules () ((_) 1) ((_ a) (define a 1)) ((_ a b) (begin (define a b) (+ a b)))))"
	checkBodies(t, caseExpander(t), []expandCase{
		{m, "bad syntax"}, {m + "(begin)", "bad syntax"}, {m + m, "duplicate definition"}, {m + "1", "(quote 1)"}, {"1 " + m, "(quote 1)"}, {m + "(m)", "(quote 1)"}, {m + "(m) 2 (m)", "(begin (quote 1) (quote 2) (quote 1))"}, {m + "m", "bad syntax"}, {m + "(car m)", "bad syntax"}, {m + "(set! m 1)", "bad syntax"},
		// Behind its definition a macro is used where a form is looked at, and before it only where an expression is expanded.
		{"(car (m))" + m, "(car (quote 1))"}, {"(m)" + m, "(quote 1)"}, {"(m z) 5" + m, "definition in expression context"}, {"(m z z)" + m, "definition in expression context"}, {m + "(m z) z", "(local (v6) (set! v6 (quote 1)) v6)"}, {m + "(m z)", "bad syntax"}, {m + "(m z 5)", "(local (v6) (set! v6 (quote 5)) (+ v6 (quote 5)))"}, {m + "(m z 5) (m y z)", "(local (v6 v7) (set! v6 (quote 5)) (+ v6 (quote 5)) (set! v7 v6) (+ v7 v6))"}, {m + "(m z) (m z) z", "duplicate definition"}, {m + "(m z) (define z 1) z", "duplicate definition"}, {m + "(m 5) 1", "bad syntax"}, {m + "(m 1 2 3)", "no matching rule"}, {m + "(m a) (define-syntax a (syntax-rules () ((_) 1))) 2", "duplicate definition"},
		{m + "(define (f) (m z) z) (f)", "(local (v6) (set! v6 (lambda () (local (v7) (set! v7 (quote 1)) v7))) (v6))"}, {m + "(if (m z) 1 2)", "definition in expression context"}, {m + "(car (m z))", "definition in expression context"},
		// A name that a macro introduces is its own.
		{"(define-syntax d (syntax-rules () ((_ e) (define tmp e)))) (d 1) tmp", "unbound identifier"}, {"(define-syntax d (syntax-rules () ((_ e) (define tmp e)))) (define tmp 1) (d 2) (d 3) tmp", "(local (v6 v7 v8) (set! v6 (quote 1)) (set! v7 (quote 2)) (set! v8 (quote 3)) v6)"}, {"(define-syntax d (syntax-rules () ((_ e) (begin (define tmp e) (+ tmp e))))) (define tmp 1) (d tmp)", "(local (v6 v7) (set! v6 (quote 1)) (set! v7 v6) (+ v7 v6))"}, {"(define-syntax d (syntax-rules () ((_ n) (define (n tmp) tmp)))) (d f) (f f)", "(local (v6) (set! v6 (lambda (v7) v7)) (v6 v6))"},
		// The name of a definition is bound without its use scopes, so that it is seen outside the macro's use.
		{"(define-syntax d (syntax-rules () ((_ n e) (define n e)))) (d q 1) (define (g) q) (g)", "(local (v6 v7) (set! v6 (quote 1)) (set! v7 (lambda () v6)) (v7))"}, {"(define-syntax d (syntax-rules () ((_ n) (define-syntax n (syntax-rules () ((_ e) (car e))))))) (d p) (p 1)", "(car (quote 1))"}, {"(define-syntax d (syntax-rules () ((_ n e ...) (n q e ...)))) (d define 1) 2", "(local (v6) (set! v6 (quote 1)) (quote 2))"},
		// Macros that define macros.
		{"(define-syntax d (syntax-rules () ((_ n v) (define-syntax n (syntax-rules () ((_ v) (lambda (v) v))))))) (d p x) (p y)", "(lambda (v6) v6)"}, {"(define-syntax d (syntax-rules () ((_ n) (begin (define hidden 5) (define-syntax n (syntax-rules () ((_) hidden))))))) (d p) (d q) (define hidden 6) (+ (p) (q))", "(local (v6 v7 v8) (set! v6 (quote 5)) (set! v7 (quote 5)) (set! v8 (quote 6)) (+ v6 v7))"},
		{"(define-syntax m (syntax-rules () ((_) (m 1)) ((_ e) e))) (m)", "(quote 1)"}, {"(define-syntax ev (syntax-rules () ((_) 1) ((_ a b ...) (od b ...)))) (define-syntax od (syntax-rules () ((_) 2) ((_ a b ...) (ev b ...)))) (+ (ev) (ev 1) (ev 1 1) (od 1 1 1))", "(+ (quote 1) (quote 2) (quote 1) (quote 1))"},
		{"(define-syntax) 1", "bad syntax"}, {"(define-syntax m) 1", "bad syntax"}, {"(define-syntax m (syntax-rules () ((_) 1)) 1) 1", "bad syntax"}, {"(define-syntax 5 (syntax-rules () ((_) 1))) 1", "bad syntax"}, {"(define-syntax (m) (syntax-rules () ((_) 1))) 1", "bad syntax"}, {"(define-syntax \"m\" (syntax-rules () ((_) 1))) 1", "bad syntax"}, {"(define-syntax m 1) 1", "bad syntax"}, {"(define-syntax m let) 1", "bad syntax"}, {"(define-syntax m (syntax-rules)) 1", "bad syntax"}, {"(define-syntax m (syntax-rules () (m 1))) 1", "bad syntax"}, {"(define-syntax m (syntax-rules () ((_ x x) 1))) 1", "bad syntax"}, {"(define-syntax m (let)) 1", "bad syntax"}, {"(define-syntax m (and (syntax-rules () ((_) 1)))) 1", "bad syntax"}, {"(define syntax-rules 1) (define-syntax m (syntax-rules () ((_) 1))) 1", "bad syntax"}, {"zz (define-syntax m 1)", "bad syntax"}, {"(define-syntax m zz) (define m 1)", "bad syntax"}, {"(let) (define-syntax m 1)", "no matching rule"}, {"(define-syntax m 1) (let)", "bad syntax"},
		{"(define (f) (m)) " + m + " (f)", "(local (v6) (set! v6 (lambda () (quote 1))) (v6))"}, {"(define-syntax if (syntax-rules () ((_ a) (car a)))) (if 1)", "(car (quote 1))"}, {"(define-syntax when (syntax-rules () ((_ a) (when a a)))) (let () (when 1))", "no matching rule"}, {"(define if 1) (or if 2)", "(local (v6) (set! v6 (quote 1)) ((lambda (v7) (if v7 v7 (quote 2))) v6))"},
		{"(define let 1) (or let 2)", "(local (v6) (set! v6 (quote 1)) ((lambda (v7) (if v7 v7 (quote 2))) v6))"}, {"(define t 1) (define (or) t) (or)", "(local (v6 v7) (set! v6 (quote 1)) (set! v7 (lambda () v6)) (v7))"},
		{"(swap! glob y)", "((lambda (v6) (begin (set! v1 v3) (set! v3 v6))) v1)"}, {"(keep 1) (keep 2)", "(begin (set! v1 (quote 1)) (cons v1 (quote 1)) (set! v1 (quote 2)) (cons v1 (quote 2)))"}, {"(define glob 1) (keep glob)", "(local (v6) (set! v6 (quote 1)) (set! v1 v6) (cons v1 v6))"}, {"(begin (and) (begin (and 1) (begin (and (define a 1)) a)))", "(local (v6) (quote #t) (quote 1) (set! v6 (quote 1)) v6)"},
	})
}

func TestExpandManyDefinitions(t *testing.T) {
	definitions := func(n int) string {
		var b strings.Builder
		for _, name := range strings.Fields(symbols(n)) {
			b.WriteString("(define " + name + " 1)")
		}
		return b.String()
	}
	one := func(n int) string { return strings.Repeat(" 1", n) }
	x := caseExpander(t)
	for _, c := range []struct {
		source string
		code   int
	}{
		{definitions(59) + "1", impl.ExpandOk}, {definitions(60) + "1", impl.ExpandLarge}, {definitions(60) + "zz", impl.ExpandUnbound}, {definitions(60), impl.ExpandSyntax}, {definitions(61), impl.ExpandSyntax}, {definitions(1) + one(59), impl.ExpandOk}, {definitions(1) + one(60), impl.ExpandLarge}, {definitions(30) + one(30), impl.ExpandOk}, {definitions(30) + one(31), impl.ExpandLarge}, {definitions(30) + one(31) + "()", impl.ExpandSyntax},
		{one(60), impl.ExpandOk}, {one(61), impl.ExpandLarge}, {one(60) + "()", impl.ExpandSyntax}, {one(61) + "(define)", impl.ExpandSyntax}, {one(59) + "(begin 1 2)", impl.ExpandLarge}, {one(58) + "(begin 1 2)", impl.ExpandOk}, {one(59) + "(begin)", impl.ExpandOk}, {one(60) + "(define-syntax m (syntax-rules () ((_) 1)))", impl.ExpandOk},
		// What is no form of the body, but an expression with a sequence, counts its kids.
		{one(58) + "(let-syntax () 1 2)", impl.ExpandOk}, {one(59) + "(let-syntax () 1 2)", impl.ExpandLarge}, {definitions(1) + one(58) + "(let-syntax () 1 2)", impl.ExpandOk},
		{one(1500), impl.ExpandLarge}, {one(1499) + " zz", impl.ExpandUnbound}, {one(1500) + " zz", impl.ExpandLarge}, {one(2999) + "(define)", impl.ExpandSyntax}, {one(3000) + "(define)", impl.ExpandLarge}, {one(5000), impl.ExpandLarge}, {strings.Repeat("(begin)", 3000), impl.ExpandSyntax}, {strings.Repeat("(begin)", 3001), impl.ExpandLarge}, {strings.Repeat("(begin)", 2998) + "1", impl.ExpandOk}, {strings.Repeat("(begin)", 2999) + "1", impl.ExpandLarge},
	} {
		if term, _, code := checkBody(t, x, mustReadForms(t, c.source)); code != c.code {
			t.Errorf("ExpandBody(%.200s) = %.300s, not %d", c.source, outcome(term, code), c.code)
		}
	}
}

func TestExpansionsOfInvalid(t *testing.T) {
	usual := usualExpander(t)
	good := []impl.Syntax{mustReadForm(t, "(and 1 2)"), plain(number(1))}
	check := func(what string, x impl.Expander, c impl.Core, after impl.Expander, code int) {
		t.Helper()
		if code != impl.ExpandSyntax || !isZeroCore(c) || !sameExpander(after, x) {
			t.Errorf("%s = %s, %d with the %s", what, showCore(c), code, showExpander(after))
		}
	}
	for _, x := range badExpanders(t) {
		for _, s := range good {
			c, after, code := impl.ExpandExpression(x, s)
			check("ExpandExpression with the "+showExpander(x), x, c, after, code)
		}
		c, after, code := impl.ExpandBody(x, good)
		check("ExpandBody with the "+showExpander(x), x, c, after, code)
		c, after, code = impl.ExpandBody(x, nil)
		check("ExpandBody of nothing with the "+showExpander(x), x, c, after, code)
	}
	for _, s := range strangeForms() {
		c, after, code := impl.ExpandExpression(usual, s)
		check("ExpandExpression of "+showForm(s), usual, c, after, code)
		for _, list := range [][]impl.Syntax{{s}, {good[0], s}, {s, good[0]}, {identifier("zz"), s}, {identifier("zz"), good[0], s}} {
			c, after, code := impl.ExpandBody(usual, list)
			check("ExpandBody with "+showForm(s), usual, c, after, code)
		}
	}
	for _, list := range [][]impl.Syntax{nil, {}, make([]impl.Syntax, 0, 5)} {
		c, after, code := impl.ExpandBody(usual, list)
		check("ExpandBody of nothing", usual, c, after, code)
	}
	x := usual
	x.Scope = impl.MaxScope
	if c, _, code := impl.ExpandBody(x, nil); code != impl.ExpandLarge || !isZeroCore(c) {
		t.Errorf("ExpandBody of nothing without scopes has the code %d", code)
	}
}
