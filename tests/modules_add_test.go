package tests

import (
	"fmt"
	"slices"
	"strings"
	"testing"

	"loop.example/g03220/impl"
)

func TestModuleBodies(t *testing.T) {
	m := "(define-syntax m (syntax-rules () ((_) 1) ((_ a) (define a 1)) ((_ a b) (begin (define a b) (+ a b)))))"
	checkLoaded(t, []moduleCase{
		{"(module m () ())", "(quote ())"}, {"(module m () () 1)", "(quote 1)"}, {"(module m () () 1 2)", "(begin (quote 1) (quote 2))"}, {"(module m () () '())", "(quote ())"}, {"(module m () () car)", "car"},
		{"(module m () () (define a 1))", "(set! v1 (quote 1))"}, {"(module m () () (define (f x) x))", "(set! v1 (lambda (v2) v2))"}, {"(module m () () 1 (define a 2))", "(begin (quote 1) (set! v1 (quote 2)))"}, {"(module m () () (define a 1) (define (f) a))", "(begin (set! v1 (quote 1)) (set! v2 (lambda () v1)))"}, {"(module m () () (define a 1) a)", "(begin (set! v1 (quote 1)) v1)"},
		{"(module m () () (define-syntax k (syntax-rules () ((_) 1))))", "(quote ())"}, {"(module m () () (define-syntax k (syntax-rules () ((_) 1))) (define-syntax l (syntax-rules () ((_) (k)))))", "(quote ())"}, {"(module m () () " + m + "(m))", "(quote 1)"}, {"(module m () () " + m + "(m z))", "(set! v1 (quote 1))"}, {"(module m () () " + m + "(m z 5) (m y z))", "(begin (set! v1 (quote 5)) (+ v1 (quote 5)) (set! v2 v1) (+ v2 v1))"},
		{"(module m () () (begin))", "(quote ())"}, {"(module m () () (begin) (begin (begin) (begin)))", "(quote ())"}, {"(module m () () (begin) 1 (begin))", "(quote 1)"}, {"(module m () () (begin 1 2))", "(begin (quote 1) (quote 2))"}, {"(module m () () (begin 1 (begin 2 (define a 3))) a)", "(begin (quote 1) (quote 2) (set! v1 (quote 3)) v1)"}, {"(module m () () (begin (define a 1)))", "(set! v1 (quote 1))"},
		// An expression that is a sequence gives its kids, also if it is the only one.
		{"(module m () () (let-syntax () 1 2))", "(begin (quote 1) (quote 2))"}, {"(module m () () (let-syntax () 1 2) 3 (let-syntax () 4 5))", "(begin (quote 1) (quote 2) (quote 3) (quote 4) (quote 5))"}, {"(module m () () (cond (else 1 2)) (define a 3))", "(begin (quote 1) (quote 2) (set! v1 (quote 3)))"}, {"(module m () () (define a (begin 1 2)))", "(set! v1 (begin (quote 1) (quote 2)))"}, {"(module m () () (reset 1 2))", "(reset (begin (quote 1) (quote 2)))"},
		// All names are bound before anything is expanded.
		{"(module m () () (f a) (define (f a) (g a)) (define (g a) (f a)) (define a f))", "(begin (v1 v3) (set! v1 (lambda (v4) (v2 v4))) (set! v2 (lambda (v5) (v1 v5))) (set! v3 v1))"}, {"(module m () () car (define car 1) car)", "(begin v1 (set! v1 (quote 1)) v1)"}, {"(module m () () (car (m)) " + m + ")", "(car (quote 1))"}, {"(module m () () (let () (define a 1) a) (define a 2) a)", "(begin ((lambda () (local (v2) (set! v2 (quote 1)) v2))) (set! v1 (quote 2)) v1)"},
		{"(module m () () (define x 1) (set! x 2))", "(begin (set! v1 (quote 1)) (set! v1 (quote 2)))"}, {"(module m () () (shift k (k 1)))", "(shift v1 (v1 (quote 1)))"}, {"(module m () () (while 1 2))", "((lambda () (local (v1) (set! v1 (lambda () (if (quote 1) (begin (quote 2) (v1)) (quote #f)))) (v1))))"}, {"(module m () () (define let 1) (or let 2))", "(begin (set! v1 (quote 1)) ((lambda (v2) (if v2 v2 (quote 2))) v1))"}, {"(module m () () (define-syntax if (syntax-rules () ((_ a) (car a)))) (if 1) (or 1 2))", "(begin (car (quote 1)) ((lambda (v1) (if v1 v1 (quote 2))) (quote 1)))"}, {"(module m () () (define module 1) module)", "(begin (set! v1 (quote 1)) v1)"},
		// Variables go on from one module to the next.
		{"(module m () () (define a 1) (lambda (x) x)) (module n () () (define a 1) a)", "(begin (set! v1 (quote 1)) (lambda (v2) v2)) ; (begin (set! v3 (quote 1)) v3)"},
	})
}

func TestModuleGlobals(t *testing.T) {
	for _, c := range []struct {
		source  string
		globals []int
	}{
		{"(module m () ())", nil}, {"(module m () () (lambda (x) x) 1)", nil}, {"(module m () () (define a 1))", []int{1}}, {"(module m () () 1 (define a 1) 2 (define (b c) c) (define-syntax k (syntax-rules () ((_) 1))))", []int{1, 2}}, {"(module m () () (begin (define a 1) (begin (define b 2))) (let () (define c 3) c) (define d 4))", []int{1, 2, 3}},
		{"(module m () () (define-syntax k (syntax-rules () ((_ n) (begin (define hidden 1) (define n hidden))))) (k a) (k b))", []int{1, 2, 3, 4}}, {"(module m () () (and (lambda (x) x)) (define a 1))", []int{1}},
	} {
		w := mustLoad(t, c.source)
		if got := w.Units[0]; got.Name != "m" || !sameInts(got.Globals, c.globals) {
			t.Errorf("%s has the globals %v", c.source, got.Globals)
		}
	}
	w := mustLoad(t, "(module m () (a) (lambda (x) x) (define a 1)) (module n (m) (b) (define b a) (define c b))")
	if !sameInts(w.Units[0].Globals, []int{1}) || !sameInts(w.Units[1].Globals, []int{3, 4}) || w.Expander.Variable != 4 || w.Expander.Scope != 10 {
		t.Errorf("the program is the %s", showWorld(w))
	}
}

// Each error of chapter 7 within a module, where the forms are looked at and
// where they are expanded.
func TestModuleErrors(t *testing.T) {
	in := func(forms string) string { return "(module m () () " + forms + ")" }
	checkLoaded(t, []moduleCase{
		{in("zz"), "unbound identifier"}, {in("(define a zz)"), "unbound identifier"}, {in("(set! zz 1)"), "unbound identifier"}, {in("(zz)"), "unbound identifier"}, {in("(define (f) zz)"), "unbound identifier"}, {in("else"), "unbound identifier"},
		{in("()"), "bad syntax"}, {in("if"), "bad syntax"}, {in("let"), "bad syntax"}, {in("(if 1)"), "bad syntax"}, {in("(define)"), "bad syntax"}, {in("(define a)"), "bad syntax"}, {in("(define 5 1)"), "bad syntax"}, {in("(define (f))"), "bad syntax"}, {in("(define-syntax m 1)"), "bad syntax"}, {in("(define-syntax m)"), "bad syntax"}, {in("(set! car 1)"), "bad syntax"}, {in("(syntax-rules () ((_) 1))"), "bad syntax"}, {in("(let () (define a 1))"), "bad syntax"}, {in("(car (begin))"), "bad syntax"},
		{in("(define a 1) (define a 2)"), "duplicate definition"}, {in("(define a 1) (define-syntax a (syntax-rules () ((_) 1)))"), "duplicate definition"}, {in("(define-syntax a (syntax-rules () ((_) 1))) (define (a) 1)"), "duplicate definition"}, {in("(lambda (x x) 1)"), "duplicate definition"},
		{in("(if 1 (define a 2) 3)"), "definition in expression context"}, {in("(car (define-syntax m (syntax-rules () ((_) 1))))"), "definition in expression context"}, {in("(+ (define a 1))"), "definition in expression context"},
		{in("(let)"), "no matching rule"}, {in("(define a (let))"), "no matching rule"}, {in("(while)"), "no matching rule"},
		{in("(define-syntax m (syntax-rules () ((_) (m)))) (m)"), "too many macro steps"}, {in("(define-syntax m (syntax-rules () ((_) (car (m))))) (define a (m))"), "too many macro steps"},
		{in("(+ 1 2 3 4 5 6 7 8 9)"), "too large"}, {in("(lambda (a b c d e f g h i) 1)"), "too large"}, {in("(define a (begin" + strings.Repeat(" 1", 61) + "))"), "too large"},
		{in("(let ((a 1)) (define a 2) a)"), "ambiguous identifier"}, {in("(define (f) (let ((a 1)) (define a 2) (set! a 3) 4))"), "ambiguous identifier"},
		// Between the units, an error is that of its module.
		{"(module a () ()) (module b () () zz) (module c () () (let))", "unbound identifier"}, {"(module a () () 1) (module b (a) () (let)) (module b () () zz)", "no matching rule"},
	})
}

// The first of two errors counts: forms are looked at before they are expanded,
// exports come behind the forms, and the sizes at last.
func TestFirstModuleError(t *testing.T) {
	looked := []moduleCase{{"(define)", "bad syntax"}, {"(define a 1) (define a 2)", "duplicate definition"}, {"(let)", "no matching rule"}, {"(define-syntax m (syntax-rules () ((_) (m)))) (m)", "too many macro steps"}, {"(define-syntax k 1)", "bad syntax"}}
	expanded := []moduleCase{{"zz", "unbound identifier"}, {"()", "bad syntax"}, {"(lambda (x x) 1)", "duplicate definition"}, {"(car (define b 1))", "definition in expression context"}, {"(car (let))", "no matching rule"}, {"(define c (+ 1 2 3 4 5 6 7 8 9))", "too large"}, {"(let ((d 1)) (define d 2) d)", "ambiguous identifier"}}
	var cases []moduleCase
	for _, first := range looked {
		for _, second := range looked {
			if first.source != second.source {
				cases = append(cases, moduleCase{"(module m () () " + first.source + second.source + ")", first.want})
			}
		}
		for _, second := range expanded {
			cases = append(cases, moduleCase{"(module m () () " + first.source + second.source + ")", first.want}, moduleCase{"(module m () () " + second.source + first.source + ")", first.want})
		}
		cases = append(cases, moduleCase{"(module m () (zz) " + first.source + ")", first.want})
	}
	for _, first := range expanded {
		for _, second := range expanded {
			if first.source != second.source {
				cases = append(cases, moduleCase{"(module m () () " + first.source + second.source + ")", first.want})
			}
		}
		cases = append(cases, moduleCase{"(module m () (zz) " + first.source + ")", first.want}, moduleCase{"(module m () (car) " + first.source + strings.Repeat(" 1", 61) + ")", first.want}, moduleCase{"(module m () () " + strings.Repeat("1 ", 61) + first.source + ")", first.want})
	}
	checkLoaded(t, append(cases,
		moduleCase{"(module m () (zz) " + strings.Repeat(" 1", 61) + ")", "bad export"}, moduleCase{"(module m () (car) " + strings.Repeat(" 1", 61) + ")", "bad export"}, moduleCase{"(module m () (let) " + strings.Repeat(" 1", 61) + ")", "too large"},
		// What the imports do comes before the forms.
		moduleCase{"(module p () (a) (define a 1)) (module q () (a) (define a 1)) (module r (p q) () (define))", "duplicate definition"}, moduleCase{"(module p () (a) (define a 1)) (module q () (a) (define a 1)) (module r (p q) (zz) zz)", "duplicate definition"},
	))
}

func TestImports(t *testing.T) {
	p := "(module p () (a m) (define a 1) (define-syntax m (syntax-rules () ((_ e) (cons a e)))))"
	q := "(module q (p) (a m) )"
	other := "(module o () (a) (define a 1))"
	checkLoaded(t, []moduleCase{
		{p + "(module r (p) () a (m 2))", "(set! v1 (quote 1)) ; (begin v1 (cons v1 (quote 2)))"}, {p + "(module r (p) () (set! a 2))", "(set! v1 (quote 1)) ; (set! v1 (quote 2))"},
		// The same export by way of two modules, in each order.
		{p + q + "(module r (p q) () a (m 2))", "(set! v1 (quote 1)) ; (quote ()) ; (begin v1 (cons v1 (quote 2)))"}, {p + q + "(module r (q p) () a (m 2))", "(set! v1 (quote 1)) ; (quote ()) ; (begin v1 (cons v1 (quote 2)))"}, {p + q + "(module r (q) () (m a))", "(set! v1 (quote 1)) ; (quote ()) ; (cons v1 v1)"}, {p + q + "(module r (p) (m)) (module s (q r p) () (m a))", "(set! v1 (quote 1)) ; (quote ()) ; (quote ()) ; (cons v1 v1)"},
		// The same name with another meaning.
		{p + other + "(module r (p o) () 1)", "duplicate definition"}, {p + other + "(module r (o p) () 1)", "duplicate definition"}, {p + q + other + "(module r (o q) ())", "duplicate definition"}, {p + q + other + "(module r (p q o) ())", "duplicate definition"}, {p + "(module o () (m) (define m 1)) (module r (p o) ())", "duplicate definition"}, {p + "(module o () (m) (define-syntax m (syntax-rules () ((_ e) (cons a e))))) (module r (p o) ())", "duplicate definition"},
		// A name that the module defines itself, by itself or by what it imports.
		{p + "(module r (p) () (define a 1))", "duplicate definition"}, {p + "(module r (p) () (define (a) 1))", "duplicate definition"}, {p + "(module r (p) () (define-syntax a (syntax-rules () ((_) 1))))", "duplicate definition"}, {p + "(module r (p) () (define m 1))", "duplicate definition"}, {p + "(module r (p) () (let () (define a 2) a) (lambda (a m) a))", "(set! v1 (quote 1)) ; (begin ((lambda () (local (v2) (set! v2 (quote 2)) v2))) (lambda (v3 v4) v3))"}, {p + "(module r () () (define a 2) a)", "(set! v1 (quote 1)) ; (begin (set! v2 (quote 2)) v2)"},
		// Names of the base macros, of forms and of primitives.
		{"(module p () (let) (define let 1)) (module r (p) () (or let let))", "(set! v1 (quote 1)) ; ((lambda (v2) (if v2 v2 v1)) v1)"}, {"(module p () (let)) (module r (p) () (let ((a 1)) a))", "(quote ()) ; ((lambda (v1) v1) (quote 1))"}, {"(module p () (let)) (module r (p) () (define let 1))", "duplicate definition"}, {"(module r () () (define let 1))", "(set! v1 (quote 1))"}, {"(module p () (let and)) (module q () (or let)) (module r (p q) () (let () (and)))", "(quote ()) ; (quote ()) ; ((lambda () (quote #t)))"}, {"(module p () (let) (define-syntax let (syntax-rules () ((_) 5)))) (module q () (let)) (module r (p q) ())", "duplicate definition"},
		{"(module p () (if) (define if 1)) (module r (p) () (if if) (or 1 2))", "(set! v1 (quote 1)) ; (begin (v1 v1) ((lambda (v2) (if v2 v2 (quote 2))) (quote 1)))"}, {"(module p () (car) (define (car x) x)) (module r (p) () (car 1))", "(set! v1 (lambda (v2) v2)) ; (v1 (quote 1))"}, {"(module p () (define) (define-syntax define (syntax-rules () ((_ a) (quote a))))) (module r (p) () (define b))", "(quote ()) ; (quote b)"}, {"(module p () (begin) (define-syntax begin (syntax-rules () ((_ a ...) (quote (a ...)))))) (module r (p) () (begin b c) (cond (else 1 2)))", "(quote ()) ; (begin (quote (b c)) (quote 1) (quote 2))"},
		{"(module p () (syntax-rules) (define syntax-rules 1)) (module r (p) () (define-syntax m (syntax-rules () ((_) 1))))", "bad syntax"}, {"(module p () (else) (define else #f)) (module r (p) () (cond (else 1)))", "(set! v1 (quote #f)) ; (if v1 (quote 1) (quote #f))"},
		// An export under another name is not there, and an import that exports nothing gives nothing.
		{"(module p () ()) (module r (p) () 1)", "(quote ()) ; (quote 1)"}, {"(module p () () (define a 1)) (module r (p) () a)", "unbound identifier"},
	})
}

// A variable and a macro with the same number are not the same.
func TestImportsOfOneNumber(t *testing.T) {
	p := impl.Module{Name: "p", Exports: []string{"s8"}, Body: definitions(t, "s", 10)}
	o := mustReadModule(t, "(module o () (s8) (define-syntax s8 (syntax-rules () ((_) 1))))")
	w, code := addAll(t, p, o)
	if code != impl.ModuleOk || len(w.Exports) != 2 || w.Exports[0] != variableExport("p", "s8", 9) || w.Exports[1] != macroExport("o", "s8", 9) {
		t.Fatalf("the exports are %v", w.Exports)
	}
	for _, imports := range [][]string{{"p", "o"}, {"o", "p"}} {
		if _, code := checkAdd(t, w, impl.Module{Name: "r", Imports: imports}); code != impl.ExpandDuplicate {
			t.Errorf("the imports of %v have the code %d", imports, code)
		}
	}
}

func TestExports(t *testing.T) {
	for _, c := range []struct {
		source, want string
	}{
		{"(module m () (zz))", "bad export"}, {"(module m () (zz) (quote zz))", "bad export"}, {"(module m () (a zz) (define a 1))", "bad export"}, {"(module m () (zz a) (define a 1))", "bad export"}, {"(module m () (else))", "bad export"}, {"(module m () (m))", "bad export"}, {"(module m () (module))", "bad export"},
		{"(module m () (if))", "bad export"}, {"(module m () (quote))", "bad export"}, {"(module m () (define a) (define a 1))", "bad export"}, {"(module m () (syntax-rules))", "bad export"}, {"(module m () (+))", "bad export"}, {"(module m () (car))", "bad export"}, {"(module m () (a display) (define a 1))", "bad export"},
		{"(module m () (if) (define if 1))", "m if variable 1"}, {"(module m () (car) (define-syntax car (syntax-rules () ((_) 1))))", "m car macro 9"}, {"(module m () (m) (define m 1))", "m m variable 1"},
		{"(module m () (a) (define a 1))", "m a variable 1"}, {"(module m () (f a) (define a 1) (define (f) a))", "m f variable 2, m a variable 1"}, {"(module m () (k) (define-syntax j (syntax-rules () ((_) 1))) (define-syntax k (syntax-rules () ((_) 1))))", "m k macro 10"}, {"(module m () (let swap! while) )", "m let macro 0, m swap! macro 8, m while macro 7"},
		{"(module m () (a b) (define-syntax both (syntax-rules () ((_ x y) (begin (define x 1) (define y 2))))) (both a b))", "m a variable 1, m b variable 2"}, {"(module m () (a) (define-syntax one (syntax-rules () ((_) (define a 1)))) (one))", "bad export"}, {"(module m () (a) (let () (define a 1) a))", "bad export"}, {"(module m () (a) (lambda (a) a))", "bad export"}, {"(module m () (a) (let-syntax ((a (syntax-rules () ((_) 1)))) 1))", "bad export"}, {"(module m () (a) (begin (define a 1)))", "m a variable 1"},
		{"(module m () (a) (define a 1)) (module n (m) (a))", "m a variable 1, n a variable 1"}, {"(module m () (a k) (define a 1) (define-syntax k (syntax-rules () ((_) a)))) (module n (m) (k b a) (define b 1)) (module o (n) (a b))", "m a variable 1, m k macro 9, n k macro 9, n b variable 2, n a variable 1, o a variable 1, o b variable 2"}, {"(module m () (a) (define a 1)) (module n () (a))", "bad export"}, {"(module m () (a) (define a 1) (define b 1)) (module n (m) (b))", "bad export"}, {"(module m () (a) (define a 1)) (module n (m) ()) (module o (n) (a))", "bad export"},
		{"(module m () (a) (define a 1)) (module n () (a) (define a 2)) (module o (m) (a)) (module p (n) (a))", "m a variable 1, n a variable 2, o a variable 1, p a variable 2"},
		// A name that is ambiguous within an expression is not so for the module.
		{"(module m () (a) (define a 1) (let () (define a 2) a))", "m a variable 1"}, {"(module m () (a) (let ((a 1)) (define a 2) 3) (define a 4))", "m a variable 1"},
	} {
		w, code := addAll(t, program(t, c.source)...)
		got := problemText(code)
		if code == impl.ModuleOk {
			var texts []string
			for _, x := range w.Exports {
				texts = append(texts, fmt.Sprintf("%s %s %s %d", x.Module, x.Text, map[int]string{impl.BindingVariable: "variable", impl.BindingMacro: "macro"}[x.Kind], x.Number))
			}
			got = strings.Join(texts, ", ")
		}
		if got != c.want {
			t.Errorf("%s: %s, not %s", c.source, got, c.want)
		}
	}
}

// The codes that are found before anything is expanded, and their order.
func TestAddModuleProblems(t *testing.T) {
	w := mustLoad(t, "(module p () (a) (define a 1)) (module q (p) () a)")
	bad := w
	bad.Exports = append(slices.Clone(w.Exports), w.Exports...)
	for _, c := range []struct {
		w      impl.World
		m      impl.Module
		wanted int
	}{
		{w, impl.Module{Name: "r"}, impl.ModuleOk}, {w, impl.Module{Name: "r", Imports: []string{"p", "q"}}, impl.ModuleOk}, {w, impl.Module{Name: "p"}, impl.ModuleDefined}, {w, impl.Module{Name: "q", Imports: []string{"p"}}, impl.ModuleDefined}, {w, impl.Module{Name: "r", Imports: []string{"s"}}, impl.ModuleMissing}, {w, impl.Module{Name: "r", Imports: []string{"p", "s", "q"}}, impl.ModuleMissing}, {w, impl.Module{Name: "pp"}, impl.ModuleOk},
		{w, impl.Module{}, impl.ModuleMalformed}, {w, impl.Module{Name: "p", Imports: []string{"p"}}, impl.ModuleMalformed}, {w, impl.Module{Name: "r", Imports: []string{"r"}}, impl.ModuleMalformed}, {w, impl.Module{Name: "r", Imports: []string{"s", "s"}}, impl.ModuleMalformed}, {w, impl.Module{Name: "p", Exports: []string{"a", "a"}}, impl.ModuleMalformed}, {w, impl.Module{Name: "r", Imports: []string{"s"}, Body: []impl.Datum{{Kind: 9}}}, impl.ModuleMalformed},
		{w, impl.Module{Name: "p", Imports: []string{"s"}}, impl.ModuleDefined}, {w, impl.Module{Name: "p", Exports: []string{"zz"}, Body: mustParse(t, "zz (let)")}, impl.ModuleDefined}, {w, impl.Module{Name: "r", Imports: []string{"s"}, Exports: []string{"zz"}, Body: mustParse(t, "zz (let)")}, impl.ModuleMissing}, {w, impl.Module{Name: "r", Imports: []string{"p", "q"}, Exports: []string{"zz"}, Body: mustParse(t, "zz (let)")}, impl.ExpandNoRule},
		{bad, impl.Module{Name: "r"}, impl.ModuleMalformed}, {bad, impl.Module{Name: "p"}, impl.ModuleMalformed}, {bad, impl.Module{Name: "r", Imports: []string{"s"}}, impl.ModuleMalformed}, {bad, impl.Module{}, impl.ModuleMalformed}, {impl.World{}, impl.Module{Name: "r"}, impl.ModuleOk}, {impl.World{}, impl.Module{Name: "r", Imports: []string{"p"}}, impl.ModuleMissing}, {impl.World{}, impl.Module{Name: "r", Body: mustParse(t, "5")}, impl.ModuleOk}, {impl.World{}, impl.Module{Name: "r", Body: mustParse(t, "car")}, impl.ExpandUnbound},
	} {
		if _, code := checkAdd(t, c.w, c.m); code != c.wanted {
			t.Errorf("AddModule of %s has the code %d, not %d", describedText(moduleDatum(c.m)), code, c.wanted)
		}
	}
	for _, m := range badModules() {
		if got, code := impl.AddModule(w, m); code != impl.ModuleMalformed || !sameWorld(got, w) {
			t.Errorf("AddModule of the module %q, which is not valid, has the code %d", m.Name, code)
		}
	}
	for _, m := range goodModules() {
		checkAdd(t, w, m)
	}
	for _, w := range goodWorlds(t) {
		if len(w.Exports) < 1000 {
			checkAdd(t, w, impl.Module{Name: "new", Body: mustParse(t, "5")})
			checkAdd(t, w, impl.Module{Name: "new", Imports: unitNames(w.Units), Exports: []string{"a"}, Body: mustParse(t, "(define c 5) a")})
		}
	}
}

// The steps that are left in the world's expander do not count: a module has
// MaxSteps of its own.
func TestModuleSteps(t *testing.T) {
	w := impl.NewWorld()
	none := "(define-syntax none (syntax-rules () ((_) (begin))))"
	for _, left := range []int{0, 1, 5, 199, 200} {
		w.Expander.Steps = left
		for _, c := range []struct{ steps, code int }{{0, impl.ModuleOk}, {1, impl.ModuleOk}, {6, impl.ModuleOk}, {119, impl.ModuleOk}, {200, impl.ModuleOk}, {201, impl.ExpandFuel}, {230, impl.ExpandFuel}} {
			m := impl.Module{Name: "m", Body: mustParse(t, none+strings.Repeat("(none)", c.steps))}
			after, code := checkAdd(t, w, m)
			if code != c.code || code == impl.ModuleOk && after.Expander.Steps != 200-c.steps || code != impl.ModuleOk && after.Expander.Steps != left {
				t.Errorf("AddModule with %d steps left and %d steps has the code %d and leaves %d", left, c.steps, code, after.Expander.Steps)
			}
		}
	}
	w = mustLoad(t, "(module m () () (and 1) (or 2)) (module n () () (and 1))")
	if w.Expander.Steps != 199 {
		t.Errorf("%d steps are left", w.Expander.Steps)
	}
}

// The expressions and forms of each module are counted from its own beginning;
// those of source, with what the macro makes, are 2955.
func TestModuleCount(t *testing.T) {
	source := "(define-syntax ten (syntax-rules () ((_ e) (begin e e e e e e e e e e)))) (ten (ten (ten (begin (begin)))))" + strings.Repeat("(ten (ten (begin)))", 6)
	for _, c := range []struct {
		forms string
		code  int
	}{
		{"", impl.ModuleOk}, {strings.Repeat("(begin)", 44), impl.ModuleOk}, {strings.Repeat("(begin)", 45), impl.ModuleOk}, {strings.Repeat("(begin)", 46), impl.ExpandLarge}, {strings.Repeat("(begin)", 47), impl.ExpandLarge},
		{strings.Repeat("(begin)", 43) + "1", impl.ModuleOk}, {strings.Repeat("(begin)", 44) + "1", impl.ExpandLarge}, {strings.Repeat("(begin)", 45) + "(define)", impl.ExpandLarge}, {strings.Repeat("(begin)", 44) + "(define)", impl.ExpandSyntax}, {strings.Repeat("(begin)", 44) + "zz", impl.ExpandLarge}, {strings.Repeat("(begin)", 43) + "zz", impl.ExpandUnbound},
		{strings.Repeat("(begin)", 43) + "(define a 1)", impl.ModuleOk}, {strings.Repeat("(begin)", 44) + "(define a 1)", impl.ExpandLarge},
	} {
		w := impl.NewWorld()
		for i := range 2 {
			var code int
			w, code = checkAdd(t, w, impl.Module{Name: fmt.Sprint("m", i), Body: mustParse(t, source+c.forms)})
			if code != c.code {
				t.Errorf("a module with %s has the code %d, not %d", c.forms, code, c.code)
			}
		}
	}
}
