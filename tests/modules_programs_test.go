package tests

import (
	"fmt"
	"strings"
	"testing"

	"loop.example/g03220/impl"
)

// describedLoad loads a program with the second expander.
func describedLoad(source string) (impl.World, int) {
	data, ok := impl.ParseData(source)
	if !ok || len(data) == 0 {
		return impl.World{}, impl.ModuleMalformed
	}
	w := impl.NewWorld()
	for _, d := range data {
		isList := d.Kind == impl.DatumList && len(d.Items) >= 4
		if !isList {
			return impl.World{}, impl.ModuleMalformed
		}
		m := impl.Module{Name: d.Items[1].Text, Imports: textsIn(d.Items[2]), Exports: textsIn(d.Items[3]), Body: d.Items[4:]}
		if !isGoodModule(m) || !sameDatum(moduleDatum(m), d) {
			return impl.World{}, impl.ModuleMalformed
		}
		after, code := describedAdd(w, m)
		if code != impl.ModuleOk {
			return impl.World{}, code
		}
		w = after
	}
	return w, impl.ModuleOk
}

func checkLoad(t *testing.T, source string) (impl.World, int) {
	t.Helper()
	w, code := impl.LoadProgram(source)
	wanted, wantedCode := describedLoad(source)
	if code != wantedCode || !sameWorld(w, wanted) || code != impl.ModuleOk && !isZeroWorld(w) {
		t.Errorf("LoadProgram(%.600s) = %s, %d, not %s, %d", source, showWorld(w), code, showWorld(wanted), wantedCode)
	}
	if code == impl.ModuleOk && !impl.IsWorld(w) {
		t.Errorf("LoadProgram(%.600s) = %s, which is not valid", source, showWorld(w))
	}
	return w, code
}

func TestLoadProgram(t *testing.T) {
	p := "(module p () (a) (define a 3))"
	main := "(module main (p) () (+ a 1))"
	for _, c := range []struct {
		source string
		code   int
	}{
		{p, impl.ModuleOk}, {p + main, impl.ModuleOk}, {p + "\n" + main, impl.ModuleOk}, {" ; a comment\n" + p + " ; (\n\n\t" + main + "\n", impl.ModuleOk}, {"(module m () ())", impl.ModuleOk}, {"(module m () () 'a \"b\" ; c\n)", impl.ModuleOk},
		{"", impl.ModuleMalformed}, {" ", impl.ModuleMalformed}, {"\n\n", impl.ModuleMalformed}, {"; nothing", impl.ModuleMalformed}, {"(", impl.ModuleMalformed}, {")", impl.ModuleMalformed}, {p + ")", impl.ModuleMalformed}, {p + main + "(", impl.ModuleMalformed}, {p + "\"", impl.ModuleMalformed}, {"A", impl.ModuleMalformed}, {p + "\r", impl.ModuleMalformed}, {p + "\x00", impl.ModuleMalformed},
		{"5", impl.ModuleMalformed}, {"()", impl.ModuleMalformed}, {"(module m ())", impl.ModuleMalformed}, {"module", impl.ModuleMalformed}, {"(define a 1)", impl.ModuleMalformed}, {"(module m (m) ())", impl.ModuleMalformed}, {"(module longname9 () ())", impl.ModuleMalformed},
		// Data that are no modules, behind good modules and before them, and behind an error.
		{p + main + "5", impl.ModuleMalformed}, {p + "5" + main, impl.ModuleMalformed}, {"5" + p + main, impl.ModuleMalformed}, {p + "()", impl.ModuleMalformed}, {"5 (module m () () zz)", impl.ModuleMalformed}, {"(module m () () zz) 5", impl.ExpandUnbound}, {p + "(module m () () (let)) 5", impl.ExpandNoRule}, {"(module m (zz) ()) (module m ())", impl.ModuleMissing}, {"(module m () (zz)) (", impl.ModuleMalformed}, {"(module m () (zz)) ()", impl.ModuleExport},
		{p + p, impl.ModuleDefined}, {p + main + p, impl.ModuleDefined}, {p + main + "(module p (zz) (zz) zz)", impl.ModuleDefined}, {p + p + "5", impl.ModuleDefined}, {main + p, impl.ModuleMissing}, {main, impl.ModuleMissing}, {p + "(module q (main) ())" + main, impl.ModuleMissing}, {p + "(module q (p) (a b))", impl.ModuleExport}, {p + "(module q (p) () (define a 1))", impl.ExpandDuplicate},
	} {
		if _, code := checkLoad(t, c.source); code != c.code {
			t.Errorf("LoadProgram(%s) has the code %d, not %d", c.source, code, c.code)
		}
	}
	w, _ := impl.LoadProgram(p + main)
	if len(w.Units) != 2 || impl.FormatCore(w.Units[0].Body) != "(set! v1 (quote 3))" || impl.FormatCore(w.Units[1].Body) != "(+ v1 (quote 1))" || !sameInts(w.Units[0].Globals, []int{1}) || len(w.Units[1].Globals) != 0 || len(w.Exports) != 1 || w.Exports[0] != variableExport("p", "a", 1) {
		t.Errorf("the program is the %s", showWorld(w))
	}
}

func TestLoadLongPrograms(t *testing.T) {
	var twelve strings.Builder
	for i := range 12 {
		fmt.Fprintf(&twelve, "(module m%d () (x) (define x %d))\n", i, i)
	}
	blanks := strings.Repeat(" ", impl.MaxSource-twelve.Len())
	for _, c := range []struct {
		source string
		code   int
	}{
		{twelve.String(), impl.ModuleOk}, {twelve.String() + "(module n () ())", impl.ExpandLarge}, {twelve.String() + "(module n () ()) 5", impl.ExpandLarge}, {twelve.String() + "5", impl.ModuleMalformed}, {twelve.String() + blanks, impl.ModuleOk}, {twelve.String() + blanks + " ", impl.ModuleMalformed},
		{"(module m () ()" + strings.Repeat("(begin)", 297) + ")", impl.ModuleOk}, {"(module m () ()" + strings.Repeat("(begin)", 298) + " 1)", impl.ModuleMalformed}, {"(module m () ()" + strings.Repeat("(begin)", 297) + ") (module n () ())", impl.ModuleMalformed}, {"(module m () ()" + strings.Repeat(" 1", 61) + ")", impl.ExpandLarge},
		{"(module m () () '" + strings.Repeat("(", 17) + strings.Repeat(")", 17) + ")", impl.ModuleOk}, {"(module m () () '" + strings.Repeat("(", 18) + strings.Repeat(")", 18) + ")", impl.ModuleOk}, {"(module m () () '" + strings.Repeat("(", 19) + strings.Repeat(")", 19) + ")", impl.ModuleMalformed}, {strings.Repeat("(", 5000), impl.ModuleMalformed},
	} {
		if _, code := checkLoad(t, c.source); code != c.code {
			t.Errorf("LoadProgram(%.100s) has the code %d, not %d", c.source, code, c.code)
		}
	}
}

// Texts of any bytes, and texts that are nearly programs.
func TestLoadAnyText(t *testing.T) {
	g := generator(223)
	good := "(module p () (a m) (define a 3) (define-syntax m (syntax-rules () ((_ e) (cons a e)))))\n(module main (p) () (m (+ a 1)))"
	found := map[int]int{}
	for range 1500 {
		source := []byte(good)
		for range 1 + g.below(3) {
			at := g.below(len(source))
			switch g.below(4) {
			case 0:
				source[at] = byte(g.below(256))
			case 1:
				source = append(source[:at], source[at+1:]...)
			case 2:
				source[at] = "() apmze'\"1;"[g.below(12)]
			case 3:
				source[at], source[len(source)-1-at] = source[len(source)-1-at], source[at]
			}
		}
		_, code := checkLoad(t, string(source))
		found[code]++
	}
	if len(found) < 6 {
		t.Errorf("only the codes %v are found", found)
	}
	for range 300 {
		checkLoad(t, g.chars("(module p () a)", 60))
	}
}
