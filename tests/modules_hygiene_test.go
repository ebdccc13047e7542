package tests

import (
	"slices"
	"strings"
	"testing"

	"loop.example/g03220/impl"
)

// P5: a program is what its modules mean, whatever their names are called, also
// where a macro of one module is used in another one.
func TestP5Modules(t *testing.T) {
	found, used := 0, 0
	plannedPrograms(229, 400, 4, func(p plannedProgram) {
		w, ok := loadSources(t, p.sources)
		if !ok {
			return
		}
		found++
		got, ok := impl.ProgramOf(w.Units)
		if !ok || addresses(got) != addresses(p.term) || !impl.AlphaEqual(got, p.term) {
			t.Fatalf("%s\nis %s, not %s", strings.Join(p.sources, "\n"), describedText(describedDatum(got)), describedText(describedDatum(p.term)))
		}
		if !impl.IsWorld(w) {
			t.Fatalf("%s is a world that is not valid", strings.Join(p.sources, "\n"))
		}
		for _, x := range w.Exports {
			if x.Kind == impl.BindingMacro {
				used++
				break
			}
		}
	})
	if found < 1200 || used < 800 {
		t.Errorf("only %d programs are loaded, %d of them with macros that are exported", found, used)
	}
}

// The two programs of a pair have modules that mean the same: in the first one,
// names that could be confused have the same text.
func TestP5ModuleCases(t *testing.T) {
	for _, c := range []struct{ confusing, clear string }{
		// Users do not capture what macros refer to.
		{"(module p () (get) (define x 1) (define-syntax get (syntax-rules () ((_) x)))) (module q (p) () (define x 2) (cons x (get)))", "(module p () (get) (define x 1) (define-syntax get (syntax-rules () ((_) x)))) (module q (p) () (define y 2) (cons y (get)))"},
		{"(module p () (get) (define x 1) (define-syntax get (syntax-rules () ((_ e) (cons x e))))) (module q (p) () (lambda (x) (get x)) (let ((x 1)) (get x)) (let () (define x 1) (get x)))", "(module p () (get) (define x 1) (define-syntax get (syntax-rules () ((_ e) (cons x e))))) (module q (p) () (lambda (y) (get y)) (let ((y 1)) (get y)) (let () (define y 1) (get y)))"},
		{"(module p () (put) (define x 1) (define-syntax put (syntax-rules () ((_ e) (set! x e))))) (module q (p) () (define x 2) (define set! 3) (put x) (put set!))", "(module p () (put) (define x 1) (define-syntax put (syntax-rules () ((_ e) (set! x e))))) (module q (p) () (define y 2) (define z 3) (put y) (put z))"},
		{"(module p () (m) (define-syntax k (syntax-rules () ((_ e) (cons e e)))) (define-syntax m (syntax-rules () ((_ e) (k e))))) (module q (p) () (define-syntax k (syntax-rules () ((_ e) (car e)))) (define cons 1) (m (k cons)))", "(module p () (m) (define-syntax k (syntax-rules () ((_ e) (cons e e)))) (define-syntax m (syntax-rules () ((_ e) (k e))))) (module q (p) () (define-syntax j (syntax-rules () ((_ e) (car e)))) (define c 1) (m (j c)))"},
		{"(module p () (m) (define-syntax m (syntax-rules () ((_ e) (let ((a e)) (or a e)))))) (module q (p) () (define let 1) (define or 2) (define if 3) (define-syntax lambda (syntax-rules () ((_) 4))) (m (let or if (lambda))))", "(module p () (m) (define-syntax m (syntax-rules () ((_ e) (let ((a e)) (or a e)))))) (module q (p) () (define x 1) (define y 2) (define z 3) (define-syntax w (syntax-rules () ((_) 4))) (m (x y z (w))))"},
		{"(module p () (m if) (define if 1) (define-syntax m (syntax-rules () ((_ e) (if e))))) (module q () (n) (define-syntax n (syntax-rules () ((_ e) (if e e e))))) (module r (p q) () (m (n if)))", "(module p () (m y) (define y 1) (define-syntax m (syntax-rules () ((_ e) (y e))))) (module q () (n) (define-syntax n (syntax-rules () ((_ e) (if e e e))))) (module r (p q) () (m (n y)))"},
		// Macros do not capture the variables of their users.
		{"(module p () (m) (define-syntax m (syntax-rules () ((_ e) (lambda (x) (let ((y x)) (cons e y))))))) (module q (p) () (define x 1) (define y 2) (m (x y)))", "(module p () (m) (define-syntax m (syntax-rules () ((_ e) (lambda (v) (let ((w v)) (cons e w))))))) (module q (p) () (define x 1) (define y 2) (m (x y)))"},
		{"(module p () (m) (define-syntax m (syntax-rules () ((_ n e) (begin (define x e) (define n x)))))) (module q (p) () (define x 1) (m y x) (m z x) (x y z))", "(module p () (m) (define-syntax m (syntax-rules () ((_ n e) (begin (define v e) (define n v)))))) (module q (p) () (define x 1) (m y x) (m z x) (x y z))"},
		{"(module p () (m) (define-syntax m (syntax-rules () ((_ e) (let-syntax ((x (syntax-rules () ((_) 1)))) (cons (x) e)))))) (module q (p) () (define x 1) (m (x)))", "(module p () (m) (define-syntax m (syntax-rules () ((_ e) (let-syntax ((z (syntax-rules () ((_) 1)))) (cons (z) e)))))) (module q (p) () (define x 1) (m (x)))"},
		{"(module p () (m) (define-syntax m (syntax-rules () ((_ e) (begin (define-syntax k (syntax-rules () ((_) 1))) (cons (k) e)))))) (module q (p) () (define (k) 2) (m (k)) (m (k)))", "(module p () (m) (define-syntax m (syntax-rules () ((_ e) (begin (define-syntax j (syntax-rules () ((_) 1))) (cons (j) e)))))) (module q (p) () (define (k) 2) (m (k)) (m (k)))"},
		// Private names of several modules, and names that go through macros of several.
		{"(module p () (m) (define x 1) (define-syntax m (syntax-rules () ((_ e) (cons x e))))) (module q (p) (n) (define x 2) (define-syntax n (syntax-rules () ((_ e) (m (cons x e)))))) (module r (p q) () (define x 3) (n x) (m (n x)))", "(module p () (m) (define a 1) (define-syntax m (syntax-rules () ((_ e) (cons a e))))) (module q (p) (n) (define b 2) (define-syntax n (syntax-rules () ((_ e) (m (cons b e)))))) (module r (p q) () (define c 3) (n c) (m (n c)))"},
		{"(module p () (make) (define x 1) (define-syntax make (syntax-rules () ((_ k) (define-syntax k (syntax-rules () ((_ e) (cons x e)))))))) (module q (p) (get) (define x 2) (make get) (get x)) (module r (q) () (define x 3) (get x))", "(module p () (make) (define a 1) (define-syntax make (syntax-rules () ((_ k) (define-syntax k (syntax-rules () ((_ e) (cons a e)))))))) (module q (p) (get) (define b 2) (make get) (get b)) (module r (q) () (define c 3) (get c))"},
		{"(module p () (call) (define-syntax call (syntax-rules () ((_ m e ...) (m e ...))))) (module q (p) () (define e 1) (define-syntax m (syntax-rules () ((_ call) (cons e call)))) (call m e) (call lambda (m) (call car m)))", "(module p () (call) (define-syntax call (syntax-rules () ((_ m e ...) (m e ...))))) (module q (p) () (define a 1) (define-syntax b (syntax-rules () ((_ c) (cons a c)))) (call b a) (call lambda (d) (call car d)))"},
		// Literals mean what they mean where they stand.
		{"(module p () () (define else 1)) (module q () () (cond (else 2)))", "(module p () () (define other 1)) (module q () () (cond (else 2)))"},
		{"(module q () () (define else 1) (cond (else 2)))", "(module q () () (define y 1) (cond (y 2)))"},
		{"(module p () (l m) (define l 1) (define-syntax m (syntax-rules (l) ((_ l) 5) ((_ e) e)))) (module q (p) () (m l) (m 6)) (module r (p) () (let ((l 7)) (m l)))", "(module p () (z m) (define z 1) (define-syntax m (syntax-rules () ((_ e) e)))) (module q (p) () (m 5) (m 6)) (module r (p) () (let ((k 7)) (m k)))"},
	} {
		w, code := addAll(t, program(t, c.confusing)...)
		other, otherCode := addAll(t, program(t, c.clear)...)
		first, ok := impl.ProgramOf(w.Units)
		second, otherOk := impl.ProgramOf(other.Units)
		if code != impl.ModuleOk || otherCode != impl.ModuleOk || !ok || !otherOk || !impl.AlphaEqual(first, second) {
			t.Errorf("%s: %s, %s; %s: %s, %s", c.confusing, problemText(code), describedText(describedDatum(first)), c.clear, problemText(otherCode), describedText(describedDatum(second)))
		}
	}
}

// P11: what a module sees of the others, and what it does not.
func TestP11Cases(t *testing.T) {
	p := "(module p () (a m get) (define a 1) (define x 2) (define-syntax k (syntax-rules () ((_ e) (cons x e)))) (define-syntax m (syntax-rules () ((_ e) (k e)))) (define-syntax get (syntax-rules () ((_ n) (define n x)))))"
	begin := "(begin (set! v1 (quote 1)) (set! v2 (quote 2)))"
	checkLoaded(t, []moduleCase{
		{p + "(module q (p) () a)", begin + " ; v1"}, {p + "(module q (p) () (m 1))", begin + " ; (cons v2 (quote 1))"}, {p + "(module q (p) () (get y) y)", begin + " ; (begin (set! v3 v2) v3)"}, {p + "(module q (p) () (get x) x)", begin + " ; (begin (set! v3 v2) v3)"},
		// Without the import, nothing of it.
		{p + "(module q () () a)", "unbound identifier"}, {p + "(module q () () (set! a 1))", "unbound identifier"}, {p + "(module q () () (m 1))", "unbound identifier"}, {p + "(module q () () (m (let)))", "unbound identifier"}, {p + "(module q () () (get y))", "unbound identifier"}, {p + "(module q () (a))", "bad export"}, {p + "(module q () (m))", "bad export"},
		// With it, nothing that it does not export.
		{p + "(module q (p) () x)", "unbound identifier"}, {p + "(module q (p) () (set! x 1))", "unbound identifier"}, {p + "(module q (p) () (k 1))", "unbound identifier"}, {p + "(module q (p) (x))", "bad export"}, {p + "(module q (p) (k))", "bad export"}, {p + "(module q (p) () (k x))", "unbound identifier"},
		// What a module imports is not what it exports.
		{p + "(module q (p) () a) (module r (q) () a)", "unbound identifier"}, {p + "(module q (p) () a) (module r (q) () (m 1))", "unbound identifier"}, {p + "(module q (p) (b) (define b a)) (module r (q) () b)", begin + " ; (set! v3 v1) ; v3"}, {p + "(module q (p) (b) (define b a)) (module r (q) () a)", "unbound identifier"}, {p + "(module q (p) (n) (define-syntax n (syntax-rules () ((_ e) (m (cons a e)))))) (module r (q) () (define a 1) (define (m) 2) (n a))", begin + " ; (quote ()) ; (begin (set! v3 (quote 1)) (set! v4 (lambda () (quote 2))) (cons v2 (cons v1 v3)))"}, {p + "(module q (p) (n) (define-syntax n (syntax-rules () ((_ e) (m (cons a e)))))) (module r (q) () (n a))", "unbound identifier"},
		// Later modules are not seen by earlier ones, nor the users of a macro by the macro.
		{"(module r () () a)" + p, "unbound identifier"}, {"(module p () (m) (define-syntax m (syntax-rules () ((_) hidden)))) (module q (p) () (define hidden 1) (m))", "unbound identifier"}, {"(module p () (m) (define-syntax m (syntax-rules () ((_ e) (hidden e))))) (module q (p) () (define-syntax hidden (syntax-rules () ((_ e) e))) (m 1))", "unbound identifier"}, {"(module p () (m) (define-syntax m (syntax-rules () ((_) (set! hidden 1))))) (module q (p) () (define hidden 1) (let ((hidden 2)) (m)))", "unbound identifier"}, {"(module o () (hidden) (define hidden 5)) (module p () (m) (define-syntax m (syntax-rules () ((_) hidden)))) (module q (o p) () (m))", "unbound identifier"}, {"(module o () (hidden) (define hidden 5)) (module p (o) (m) (define-syntax m (syntax-rules () ((_) hidden)))) (module q (p) () (define hidden 6) (m))", "(set! v1 (quote 5)) ; (quote ()) ; (begin (set! v2 (quote 6)) v1)"},
		// What a macro defines for itself is not seen by its user, and not exported.
		{"(module p () (m) (define-syntax m (syntax-rules () ((_) (define hidden 1))))) (module q (p) () (m) hidden)", "unbound identifier"}, {"(module p () (m) (define-syntax m (syntax-rules () ((_) (define hidden 1))))) (module q (p) (hidden) (m))", "bad export"}, {"(module p () (m) (define-syntax m (syntax-rules () ((_) (define hidden 1))))) (module q (p) (hidden) (m) (define hidden 2) (m) hidden)", "(quote ()) ; (begin (set! v1 (quote 1)) (set! v2 (quote 2)) (set! v3 (quote 1)) v2)"},
		{"(module p () (m) (define x 1) (define-syntax m (syntax-rules () ((_ n) (define-syntax n (syntax-rules () ((_) x))))))) (module q (p) (h) (m h)) (module r (q) () (h))", "(set! v1 (quote 1)) ; (quote ()) ; v1"}, {"(module p () (m) (define x 1) (define-syntax m (syntax-rules () ((_ n) (define-syntax n (syntax-rules () ((_) x))))))) (module q (p) () (m h)) (module r (q) () (h))", "unbound identifier"},
	})
}

// A stranger defines and exports what other modules may mean by their names.
const stranger = "(module stranger () (x y t tmp loop a b c e m if let lambda begin set! + car cons or and quote else while let* cond swap! v1 local f define) (define x 1) (define y 2) (define (t) 3) (define tmp 4) (define loop 5) (define a 6) (define-syntax b (syntax-rules () ((_ e) x))) (define c 7) (define e 8) (define-syntax m (syntax-rules () ((_ e) (if e e e)))) (define if 9) (define let 10) (define lambda 11) (define begin 12) (define set! 13) (define + 14) (define car 15) (define cons 16) (define or 17) (define-syntax and (syntax-rules () ((_ e ...) (a e ...)))) (define quote 18) (define else 19) (define while 20) (define let* 21) (define cond 22) (define swap! 23) (define v1 24) (define local 25) (define f 26) (define define 27))"

// withoutStranger returns the program of all other units.
func withoutStranger(t *testing.T, w impl.World) impl.Core {
	t.Helper()
	rest := slices.DeleteFunc(slices.Clone(w.Units), func(u impl.Unit) bool { return u.Name == "stranger" })
	c, ok := impl.ProgramOf(rest)
	if !ok {
		t.Fatalf("without the stranger, the units%s are not valid", showUnits(rest))
	}
	return c
}

// P11: a module that is not imported changes nothing, wherever it is added.
func TestP11Strangers(t *testing.T) {
	found := 0
	plannedPrograms(233, 150, 2, func(p plannedProgram) {
		w, ok := loadSources(t, p.sources)
		if !ok {
			return
		}
		for at := range p.sources {
			x, ok := loadSources(t, slices.Insert(slices.Clone(p.sources), at, stranger))
			if !ok {
				continue
			}
			found++
			if got, want := withoutStranger(t, x), withoutStranger(t, w); !impl.AlphaEqual(got, want) {
				t.Fatalf("with a stranger in front of the module %d, %s is %s, not %s", at, strings.Join(p.sources, "\n"), describedText(describedDatum(got)), describedText(describedDatum(want)))
			}
		}
	})
	if found < 300 {
		t.Errorf("only %d programs are loaded", found)
	}
	// Any module, good or not.
	g := generator(239)
	base := mustLoad(t, "(module b () (x y f glob) (define x 1) (define y 2) (define (f e) e) (define glob 3))")
	other, code := impl.AddModule(base, mustReadModule(t, stranger))
	if code != impl.ModuleOk {
		t.Fatalf("the stranger has the code %d", code)
	}
	codes := map[int]int{}
	for i := range 800 {
		m := g.sourceModule(t, base, "m", []int{0, 0, 60}[i%3])
		after, code := impl.AddModule(base, m)
		afterOther, otherCode := impl.AddModule(other, m)
		if code != otherCode || code == impl.ModuleOk && !impl.AlphaEqual(withoutStranger(t, after), withoutStranger(t, afterOther)) {
			t.Fatalf("%s has the code %d, and with a stranger %d", describedText(moduleDatum(m)), code, otherCode)
		}
		codes[code]++
	}
	if codes[impl.ModuleOk] < 150 || len(codes) < 7 {
		t.Errorf("only the codes %v are found", codes)
	}
}

// P11: of each module, another one that imports it sees what it exports, and
// besides this the base macros only.
func TestP11Exports(t *testing.T) {
	seen, unseen := 0, 0
	plannedPrograms(241, 40, 2, func(p plannedProgram) {
		w, ok := loadSources(t, p.sources)
		if !ok {
			return
		}
		for _, u := range w.Units {
			for _, text := range nameTexts {
				after, code := impl.AddModule(w, impl.Module{Name: "probe", Imports: []string{u.Name}, Exports: []string{text}})
				want, isExport := impl.FindExport(w, u.Name, text)
				if macro := slices.Index(baseNames, text); !isExport && macro >= 0 {
					want, isExport = macroExport(u.Name, text, macro), true
				}
				got, _ := impl.FindExport(after, "probe", text)
				want.Module = got.Module
				if isExport != (code == impl.ModuleOk) || !isExport && code != impl.ModuleExport || isExport && got != want {
					t.Fatalf("of %s in %s, the name %s is %v, %d", u.Name, strings.Join(p.sources, "\n"), text, got, code)
				}
				if isExport {
					seen++
				} else {
					unseen++
				}
			}
		}
	})
	if seen < 1000 || unseen < 1000 {
		t.Errorf("%d names are seen, and %d are not", seen, unseen)
	}
}
