package tests

import (
	"slices"
	"strings"
	"testing"

	"loop.example/g03220/impl"
)

// namesFor returns this number of different symbols of at most 8 bytes.
func namesFor(n int) []string { return strings.Fields(symbols(n)) }

// goodModules are valid, some of them as far as a limit goes.
func goodModules() []impl.Module {
	longest := make([]string, 60)
	for i := range longest {
		longest[i] = strings.Repeat("z", 14) + string(rune('a'+i/10)) + string(rune('0'+i%10))
	}
	return []impl.Module{
		{Name: "m"}, {Name: "m", Imports: []string{}, Exports: []string{}, Body: []impl.Datum{}}, {Name: "module"}, {Name: "zzzzzzzz"}, {Name: "..."}, {Name: "-"}, {Name: "quote"},
		{Name: "m", Imports: []string{"a"}}, {Name: "m", Imports: []string{"a", "b"}, Exports: []string{"f"}, Body: []impl.Datum{list(symbol("define"), symbol("f"), number(1))}}, {Name: "m", Imports: []string{"zzzzzzzz", "mm", "zzzzzzz"}},
		{Name: "m", Exports: []string{"m"}}, {Name: "m", Imports: []string{"a"}, Exports: []string{"a"}}, {Name: "m", Exports: []string{"if", "...", "_", "module", "+", "zzzzzzzzz", "zzzzzzzzzzzzzzzz"}},
		{Name: "m", Imports: namesFor(12)}, {Name: "m", Exports: namesFor(60)}, {Name: "m", Imports: namesFor(12), Exports: longest}, {Name: "s12", Imports: namesFor(12)},
		{Name: "m", Body: []impl.Datum{list(), number(5), boolean(1), text("a b"), symbol("x"), {}}}, {Name: "m", Body: []impl.Datum{nested(19)}}, {Name: "m", Body: atoms(595)}, {Name: "m", Imports: namesFor(12), Exports: namesFor(60), Body: atoms(523)}, {Name: "m", Body: []impl.Datum{nested(19), list(atoms(575)...)}},
	}
}

// badModules are not valid, each for one reason.
func badModules() []impl.Module {
	bad := []impl.Module{
		{}, {Imports: []string{"a"}}, {Body: atoms(3)}, {Name: "zzzzzzzzz"}, {Name: strings.Repeat("a", 16)},
		{Name: "m", Imports: []string{"m"}}, {Name: "m", Imports: []string{"a", "b", "m"}}, {Name: "m", Imports: []string{"a", "a"}}, {Name: "m", Imports: []string{"a", "b", "a"}}, {Name: "m", Imports: []string{"zzzzzzzzz"}}, {Name: "m", Imports: []string{"a", "zzzzzzzzzzzzzzzz"}},
		{Name: "m", Exports: []string{"a", "a"}}, {Name: "m", Exports: []string{"a", "b", "c", "b"}}, {Name: "m", Exports: []string{strings.Repeat("z", 17)}},
		{Name: "m", Imports: namesFor(13)}, {Name: "m", Imports: namesFor(1000)}, {Name: "m", Exports: namesFor(61)}, {Name: "m", Exports: namesFor(590)}, {Name: "m", Exports: namesFor(100000)}, {Name: "s11", Imports: namesFor(12)},
		{Name: "m", Imports: append(namesFor(11), "s3")}, {Name: "m", Exports: append(namesFor(59), "s58")}, {Name: "m", Exports: append([]string{"s58"}, namesFor(59)...)},
		{Name: "m", Body: []impl.Datum{nested(20)}}, {Name: "m", Body: []impl.Datum{nested(deepNesting)}}, {Name: "m", Body: atoms(596)}, {Name: "m", Body: atoms(100000)}, {Name: "m", Imports: namesFor(12), Exports: namesFor(60), Body: atoms(524)}, {Name: "m", Body: []impl.Datum{nested(19), list(atoms(576)...)}}, {Name: "m", Imports: namesFor(1), Body: atoms(595)}, {Name: "m", Exports: namesFor(1), Body: atoms(595)},
	}
	for _, s := range noTexts {
		bad = append(bad, impl.Module{Name: s}, impl.Module{Name: s, Imports: []string{"a"}}, impl.Module{Name: "m", Imports: []string{s}}, impl.Module{Name: "m", Imports: []string{"a", s, "b"}}, impl.Module{Name: "m", Exports: []string{s}}, impl.Module{Name: "m", Exports: []string{"a", "b", s}})
	}
	for _, d := range []impl.Datum{{Kind: 5}, {Kind: -1}, {Number: 1}, {Text: "a"}, symbol("A"), symbol(""), number(impl.MaxNumber + 1), boolean(2), text("\n"), list(symbol("a"), symbol("1"))} {
		bad = append(bad, impl.Module{Name: "m", Body: []impl.Datum{d}}, impl.Module{Name: "m", Body: []impl.Datum{number(1), d, number(2)}})
	}
	return bad
}

// checkModule checks the functions of a module and of its datum.
func checkModule(t *testing.T, m impl.Module, want bool) {
	t.Helper()
	d := moduleDatum(m)
	if got := impl.IsModule(m); got != want {
		t.Errorf("IsModule of %q, %d imports, %d exports, %d forms = %v", m.Name, len(m.Imports), len(m.Exports), len(m.Body), got)
	}
	wanted, text := impl.Module{}, ""
	if want {
		wanted, text = m, describedText(d)
	}
	if got := impl.FormatModule(m); got != text {
		t.Errorf("FormatModule of %q = %.300q, not %.300q", m.Name, got, text)
	}
	if got, ok := impl.ParseModule(d); ok != want || !sameModule(got, wanted) {
		t.Errorf("ParseModule of the datum of %q, %d imports, %d exports, %d forms = %v", m.Name, len(m.Imports), len(m.Exports), len(m.Body), ok)
	}
	if !want {
		return
	}
	data, ok := impl.ParseData(text)
	if !ok || len(data) != 1 {
		t.Fatalf("the text of a module, %s, is not read", text)
	}
	if got, ok := impl.ParseModule(data[0]); !ok || !sameModule(got, m) {
		t.Errorf("the text of a module, %s, is not read back", text)
	}
}

func TestModuleValues(t *testing.T) {
	for _, m := range goodModules() {
		if !isGoodModule(m) {
			t.Errorf("the module %q is not valid", m.Name)
		}
		checkModule(t, m, true)
	}
	for _, m := range badModules() {
		checkModule(t, m, false)
	}
	m := impl.Module{Name: "m", Imports: []string{"a", "b"}, Exports: []string{"f"}, Body: mustParse(t, "(define f 1)")}
	if got := impl.FormatModule(m); got != "(module m (a b) (f) (define f 1))" {
		t.Errorf("FormatModule = %s", got)
	}
	if got := impl.FormatModule(impl.Module{Name: "m"}); got != "(module m () ())" {
		t.Errorf("FormatModule = %s", got)
	}
}

// Names of each length, and each name of one or two bytes.
func TestModuleNames(t *testing.T) {
	for length := range 20 {
		name := strings.Repeat("a", length)
		checkModule(t, impl.Module{Name: name}, length >= 1 && length <= 8)
		checkModule(t, impl.Module{Name: "m", Imports: []string{name}}, length >= 1 && length <= 8)
		checkModule(t, impl.Module{Name: "m", Exports: []string{name}}, length >= 1 && length <= 16)
	}
	for first := range 256 {
		name := string([]byte{byte(first)})
		checkModule(t, impl.Module{Name: name}, matchesSymbol(name))
		checkModule(t, impl.Module{Name: "a" + name}, matchesSymbol("a"+name))
		checkModule(t, impl.Module{Name: "m", Imports: []string{name}}, matchesSymbol(name) && name != "m")
		checkModule(t, impl.Module{Name: "m", Exports: []string{"-" + name}}, matchesSymbol("-"+name))
	}
	for n := range 65 {
		checkModule(t, impl.Module{Name: "m", Imports: namesFor(n)}, n <= 12)
		checkModule(t, impl.Module{Name: "m", Exports: namesFor(n)}, n <= 60)
	}
}

// Data that are modules and data that are nearly modules.
func TestParseModule(t *testing.T) {
	for _, source := range []string{
		"(module m () ())", "(module m () () 1)", "(module m (a) (b) c)", "(module module (quote) (module) (module m () ()))", "(module m 'a ())", "(module m () 'a 'b)", "(module m (a b c) (a b c) (define a 1) \"s\" #t 5)",
	} {
		d := mustParseOne(t, source)
		m, ok := impl.ParseModule(d)
		if !ok || !sameModule(m, mustReadModule(t, source)) || impl.FormatModule(m) != impl.FormatDatum(d) {
			t.Errorf("ParseModule(%s) = %v, %v", source, m, ok)
		}
	}
	for _, source := range []string{
		"()", "(module)", "(module m)", "(module m ())", "(module m (a b))", "5", "\"module\"", "#t", "module", "m", "(m () ())", "(m m () ())", "(modul m () ())", "(modules m () ())", "(define m () ())", "(\"module\" m () ())", "((module) m () ())", "(() m () ())", "(1 m () ())", "(m module () ())",
		"(module \"m\" () ())", "(module 5 () ())", "(module #t () ())", "(module () () ())", "(module (m) () ())", "(module m a ())", "(module m a (b))", "(module m () b)", "(module m 5 ())", "(module m () 5)", "(module m \"\" ())", "(module m () \"\")", "(module m #f ())", "(module m () #t)", "(module m a b c)",
		"(module m (5) ())", "(module m () (5))", "(module m (\"a\") ())", "(module m () (\"a\"))", "(module m (#t) ())", "(module m () (#f))", "(module m (()) ())", "(module m () (()))", "(module m ((a)) ())", "(module m () ((a)))", "(module m (a (b)) ())", "(module m () (a (b)))", "(module m (a 5 b) ())", "(module m () (a 5 b))",
		"(module m (m) ())", "(module m (a a) ())", "(module m () (a a))", "(module m (quote quote) ())", "(module abcdefghi () ())", "(module m (abcdefghi) ())", "((module m () ()))",
	} {
		if m, ok := impl.ParseModule(mustParseOne(t, source)); ok || !sameModule(m, impl.Module{}) {
			t.Errorf("ParseModule(%s) = %v, %v", source, m, ok)
		}
	}
	good := moduleDatum(impl.Module{Name: "m", Imports: []string{"a"}, Exports: []string{"b"}, Body: atoms(2)})
	for _, change := range []func(d *impl.Datum){
		func(d *impl.Datum) { d.Kind = 5 }, func(d *impl.Datum) { d.Kind = -1 }, func(d *impl.Datum) { d.Kind = impl.DatumSymbol }, func(d *impl.Datum) { d.Number = 1 }, func(d *impl.Datum) { d.Text = "a" },
		func(d *impl.Datum) { d.Items = d.Items[1:] }, func(d *impl.Datum) { d.Items = d.Items[:3] }, func(d *impl.Datum) { d.Items = nil }, func(d *impl.Datum) { d.Items = append(d.Items, nested(deepNesting)) }, func(d *impl.Datum) { d.Items = append(d.Items, atoms(593)...) }, func(d *impl.Datum) { d.Items = append(d.Items, impl.Datum{Kind: 7}) },
		func(d *impl.Datum) { d.Items[0].Items = atoms(1) }, func(d *impl.Datum) { d.Items[0].Number = 1 }, func(d *impl.Datum) { d.Items[1].Items = atoms(1) }, func(d *impl.Datum) { d.Items[1].Number = 1 }, func(d *impl.Datum) { d.Items[1].Kind = impl.DatumString },
		func(d *impl.Datum) { d.Items[2].Text = "a" }, func(d *impl.Datum) { d.Items[2].Number = 1 }, func(d *impl.Datum) { d.Items[2].Kind = 9 }, func(d *impl.Datum) { d.Items[3].Text = "a" }, func(d *impl.Datum) { d.Items[3].Kind = impl.DatumBoolean }, func(d *impl.Datum) { d.Items[3] = nested(deepNesting) }, func(d *impl.Datum) { d.Items[2] = nested(deepNesting) },
	} {
		d := cloneWithSpare([]impl.Datum{good})[0]
		change(&d)
		if m, ok := impl.ParseModule(d); ok || !sameModule(m, impl.Module{}) {
			t.Errorf("ParseModule(%.300s) = %v, %v", show(d), m, ok)
		}
	}
}

// Parts that share their memory, so that they have more nodes than can be
// visited.
func TestHugeModules(t *testing.T) {
	huge := branchingDatum(200, symbol("a"))
	m := impl.Module{Name: "m", Body: []impl.Datum{huge}}
	if impl.IsModule(m) || impl.FormatModule(m) != "" {
		t.Error("a huge module is valid")
	}
	for at := range 6 {
		d := moduleDatum(impl.Module{Name: "m", Body: atoms(2)})
		d.Items[at] = huge
		if got, ok := impl.ParseModule(d); ok || !sameModule(got, impl.Module{}) {
			t.Errorf("a huge datum, in which the item %d is, is a module", at)
		}
	}
}

// anyModule returns a module of any fields, often not a valid one.
func (g *generator) anyModule() impl.Module {
	m := impl.Module{Name: g.moduleName()}
	for range g.below(4) {
		m.Imports = append(m.Imports, g.moduleName())
	}
	for range g.below(4) {
		m.Exports = append(m.Exports, g.moduleName())
	}
	for range g.below(3) {
		d := g.datum(2)
		if g.below(8) == 0 {
			d = g.strange(1)
		}
		m.Body = append(m.Body, d)
	}
	return m
}

func (g *generator) moduleName() string {
	if g.below(12) == 0 {
		return g.chars("a1-B", 10)
	}
	return string(rune('a'+g.below(20))) + strings.Repeat("x", g.below(6))
}

func TestModulesOfAny(t *testing.T) {
	g := generator(191)
	good, all := 0, 4000
	for range all {
		m := g.anyModule()
		want := isGoodModule(m)
		if want {
			good++
		}
		checkModule(t, m, want)
	}
	if good < all/10 || good > all*9/10 {
		t.Errorf("%d of %d modules are valid", good, all)
	}
}

// P2: modules are read back from their text, and nothing else is accepted: what
// is read of any datum is the module of this datum.
func TestP2Modules(t *testing.T) {
	g := generator(193)
	read, all := 0, 6000
	for i := range all {
		m := g.anyModule()
		d := moduleDatum(m)
		if i%2 == 0 {
			d = g.nearDatum(d)
		}
		got, ok := impl.ParseModule(d)
		if ok != (len(got.Name) > 0) || ok && (!sameDatum(moduleDatum(got), d) || !isGoodModule(got)) || !ok && !sameModule(got, impl.Module{}) {
			t.Errorf("ParseModule(%s) = %v, %v", describedText(d), got, ok)
		}
		if !ok && impl.IsDatum(d) && len(d.Items) >= 4 && d.Items[0].Text == "module" {
			m := impl.Module{Name: d.Items[1].Text, Imports: textsIn(d.Items[2]), Exports: textsIn(d.Items[3]), Body: d.Items[4:]}
			if isGoodModule(m) && sameDatum(moduleDatum(m), d) {
				t.Errorf("ParseModule(%s) fails", describedText(d))
			}
		}
		if ok {
			read++
		}
	}
	if read < all/10 || read > all*9/10 {
		t.Errorf("%d of %d data are modules", read, all)
	}
}

func TestProblemText(t *testing.T) {
	codes := []int{impl.ModuleMissing, impl.ModuleDefined, impl.ModuleExport, impl.ModuleMalformed}
	for i, code := range codes {
		if code != 21+i || impl.ProblemText(code) != problemTexts[code] {
			t.Errorf("ProblemText(%d) = %q, not %q", code, impl.ProblemText(code), problemTexts[code])
		}
	}
	if impl.ModuleOk != 0 || impl.MaxName != 8 || impl.MaxModules != 12 {
		t.Error("a constant is another one")
	}
	for code := -5; code <= 40; code++ {
		if got := impl.ProblemText(code); got != problemText(code) || !slices.Contains(codes, code) && got != impl.CodeText(code) {
			t.Errorf("ProblemText(%d) = %q", code, got)
		}
	}
	for _, code := range []int{-1, -21, -24, 9, 20, 25, 256 + 21, 1 << 32, 1<<32 + 21, leastInt, leastInt + 21, greatestInt} {
		if got := impl.ProblemText(code); got != "" {
			t.Errorf("ProblemText(%d) = %q", code, got)
		}
	}
}
