package tests

import (
	"fmt"
	"slices"
	"strings"
	"testing"

	"loop.example/g03220/impl"
)

func TestImages(t *testing.T) {
	for _, s := range []struct {
		source string
		wanted bool
	}{
		{"0 0 0: constant 1; return", true}, {"0 0 3: captured 2; return", true}, {"0 5 0: new-box 4; read-local 4; return", true}, {"0 0 0: constant 1; return; pop", true}, {"0 0 0: constant 1; return; jump 4000", true}, {"0 500 500: constant 1; return", true},
		{"1 1 0: local 0; return / 0 0 0: closure 0; return", true}, {"0 0 0: constant 1; return / 0 0 0: reset 0; return", true}, {"1 1 0: local 0; return / 0 0 0: shift 0; return", true}, {"0 0 0: constant 1; return / 0 0 0: enter 0; return", true}, {"8 9 2: local 7; return / 0 0 1: captured 0; constant 1; closure 0; return", true},
		{"0 0 0: constant 1; return / 1 1 0: local 0; return / 0 0 0: closure 0; closure 1; tail-call 1", true}, {"0 0 0: constant 1; return / 0 0 0: closure 0; return / 0 0 0: closure 1; return", true}, {"0 0 0: constant 1; return / 0 0 0: constant 2; return / 0 0 0: enter 1; pop; enter 0; return", true},
		// The last code has parameters.
		{"1 1 0: local 0; return", false}, {"8 8 0: local 0; return", false}, {"0 0 0: constant 1; return / 1 1 0: closure 0; return", false},
		// A code that is not valid, or has no depths.
		{"0 0 0:", false}, {"0 0 0: return", false}, {"0 0 0: constant 1", false}, {"0 0 0: primitive 14; return", false}, {"0 0 0: constant 1; return / 0 0 0: constant 2; closure 0; return", false}, {"0 0 0: constant 1; constant 2; return / 0 0 0: closure 0; return", false}, {"9 9 0: local 0; return / 0 0 0: closure 0; return", false}, {"0 0 0: constant 1; return; local 0", false},
		// A code that is named by none, by one and by two instructions.
		{"0 0 0: constant 1; return / 0 0 0: constant 1; return", false}, {"0 0 0: constant 1; return / 0 0 0: closure 0; pop; closure 0; return", false}, {"0 0 0: constant 1; return / 0 0 0: enter 0; pop; reset 0; return", false}, {"1 1 0: local 0; return / 0 0 0: closure 0; pop; shift 0; return", false},
		{"0 0 0: constant 1; return / 0 0 0: closure 0; return / 0 0 0: closure 0; return", false}, {"0 0 0: constant 1; return / 0 0 0: closure 0; return / 0 0 0: closure 1; pop; closure 0; return", false}, {"0 0 0: constant 1; return / 0 0 0: constant 1; return / 0 0 0: closure 0; return", false}, {"0 0 0: constant 1; return / 0 0 0: constant 1; return / 0 0 0: closure 1; return", false}, {"0 0 0: constant 1; return / 0 0 0: closure 0; return / 0 0 0: constant 1; return", false},
		// By an instruction that is not reached.
		{"0 0 0: constant 1; return / 0 0 0: constant 1; return; closure 0", true}, {"0 0 0: constant 1; return / 0 0 0: closure 0; return; closure 0", false}, {"0 0 0: constant 1; return / 0 0 0: constant 1; return; closure 0; enter 0", false},
		// By an instruction that names no code.
		{"0 0 0: constant 1; return / 1 1 0: local 0; return; call 0; jump 0; constant 0; primitive 0 / 0 0 0: closure 1; return", false}, {"0 0 0: constant 1; return / 1 1 0: local 0; return; call 0; jump 0; tail-call 0; primitive 0 / 0 0 0: closure 1; pop; closure 0; return", true},
	} {
		checkImage(t, image(t, s.source), s.wanted)
	}
	for _, m := range []impl.Image{{}, {Codes: []impl.Code{}}, {Main: -1}, {Main: 1}, {Codes: []impl.Code{{}}}} {
		checkImage(t, m, false)
	}
}

func TestMainOfImages(t *testing.T) {
	for _, source := range []string{"0 0 0: constant 1; return", "0 0 0: constant 1; return / 0 0 0: closure 0; return", "0 0 0: constant 1; return / 0 0 0: closure 0; return / 0 0 0: closure 1; return"} {
		m := image(t, source)
		last := len(m.Codes) - 1
		for _, main := range []int{-2, -1, 0, 1, 2, 3, 4, 1500, leastInt, greatestInt, 1<<32 + last} {
			m.Main = main
			checkImage(t, m, main == last)
		}
	}
}

func TestSizesOfCodes(t *testing.T) {
	around := func(m impl.Image) impl.Image {
		other := image(t, "0 0 0: constant 1; return / 0 0 500:"+strings.Repeat(" captured 0;", max(0, min(500, m.Codes[0].Captures)))+"closure 0; return")
		return impl.Image{Codes: []impl.Code{m.Codes[0], other.Codes[1]}, Main: 1}
	}
	for _, params := range []int{-1, 0, 1, 7, 8, 9, 10, leastInt, greatestInt} {
		for _, slots := range []int{-1, 0, 1, 7, 8, 9, 499, 500, 501, 1000, leastInt, greatestInt} {
			m := impl.Image{Codes: []impl.Code{{Params: params, Slots: slots, Instrs: instrs(t, "constant 1; return")}}}
			checkImage(t, around(m), 0 <= params && params <= 8 && params <= slots && slots <= 500)
			checkImage(t, m, params == 0 && 0 <= slots && slots <= 500)
		}
	}
	for _, captures := range []int{-1, 0, 1, 499, 500, 501, 1000, leastInt, greatestInt} {
		m := impl.Image{Codes: []impl.Code{{Captures: captures, Instrs: instrs(t, "constant 1; return")}}}
		checkImage(t, around(m), 0 <= captures && captures <= 500)
		checkImage(t, m, 0 <= captures && captures <= 500)
	}
}

// Each condition on the A of each operation, at its bound and one beyond.
func TestBoundsOfEachOperation(t *testing.T) {
	for _, word := range operationWords {
		for _, k := range []int{0, 1, 3} {
			for _, c := range []impl.Code{{}, {Params: 1, Slots: 1}, {Slots: 1, Captures: 1}, {Params: 2, Slots: 5, Captures: 3}, {Params: 8, Slots: 500, Captures: 500}} {
				var m impl.Image
				for range k {
					m.Codes = append(m.Codes, impl.Code{Params: count(word == "shift"), Slots: 1, Instrs: instrs(t, "constant 1; return")})
				}
				m.Codes = append(m.Codes, c)
				least, most := boundsOf(m, k, word)
				if isWordAlone(word) || word == "constant" {
					least, most = 0, 0
				}
				for _, a := range []int{least - 1, least, least + 1, most - 1, most, most + 1, -1, 0, 4000, 4001, leastInt, greatestInt} {
					m.Codes[k].Instrs = append(instrs(t, "constant 1; return"), instr(operation(word), a))
					var wanted []int
					if least <= a && a <= most {
						wanted = []int{0, 1, -1}
					}
					checkDepths(t, m, k, wanted)
				}
			}
		}
	}
	// The code that is named.
	for _, word := range []string{"closure", "reset", "shift", "enter"} {
		for params := range 9 {
			m := impl.Image{Codes: []impl.Code{{Params: params, Slots: 8, Instrs: instrs(t, "constant 1; return")}, {Instrs: []impl.Instr{instr(operation(word), 0), instr(impl.OpReturn, 0)}}}, Main: 1}
			checkImage(t, m, word == "closure" || word == "shift" && params == 1 || word != "shift" && params == 0)
		}
	}
}

// ofInstrs returns a code of this many instructions.
func ofInstrs(t *testing.T, many int) impl.Code {
	t.Helper()
	pushes := slices.Repeat(instrs(t, "constant 1; pop"), many/2-1)
	if many%2 == 1 {
		pushes = append(pushes, instrs(t, "jump "+fmt.Sprint(many-2))...)
	}
	return impl.Code{Instrs: append(pushes, instrs(t, "constant 1; return")...)}
}

func TestImagesOfManyInstrs(t *testing.T) {
	for _, many := range []int{2, 3, 3999, 4000, 4001, 4002, 20000} {
		c := ofInstrs(t, many)
		if len(c.Instrs) != many {
			t.Fatalf("%d instructions, not %d", len(c.Instrs), many)
		}
		checkImage(t, impl.Image{Codes: []impl.Code{c}}, many <= 4000)
	}
	// In all codes: five of them, the last one of which enters the others.
	for _, last := range []int{3990, 3991, 3992, 3993, 4000} {
		var m impl.Image
		enters := instrs(t, "enter 0; pop; enter 1; pop; enter 2; pop; enter 3; return")
		for _, many := range []int{4000, 4000, 4000, last} {
			m.Codes = append(m.Codes, ofInstrs(t, many))
		}
		m.Codes = append(m.Codes, impl.Code{Instrs: enters})
		m.Main = 4
		checkImage(t, m, 12000+last+len(enters) <= 16000)
	}
}

// ofCodes returns an image of this many codes, in which each code but those
// before the last one enters one.
func ofCodes(t *testing.T, many int) impl.Image {
	t.Helper()
	m := image(t, "0 0 0: constant 1; return")
	for k := 1; k < many; k++ {
		m.Codes = append(m.Codes, impl.Code{Instrs: []impl.Instr{instr(impl.OpEnter, k-1), instr(impl.OpReturn, 0)}})
	}
	m.Main = many - 1
	return m
}

func TestImagesOfManyCodes(t *testing.T) {
	for _, many := range []int{1, 2, 1499, 1500, 1501, 1502, 4000} {
		checkImage(t, ofCodes(t, many), many <= 1500)
	}
}

func TestHugeImages(t *testing.T) {
	many := impl.Image{Codes: make([]impl.Code, 1000000), Main: 999999}
	if impl.IsImage(many, 0) || len(impl.FormatImage(many)) > 0 {
		t.Error("an image of 1000000 codes is valid")
	}
	long := impl.Image{Codes: []impl.Code{{Instrs: slices.Repeat(instrs(t, "constant 1"), 1000000)}}}
	if _, ok := impl.StackDepths(long, 0); ok || impl.IsImage(long, 0) || len(impl.FormatImage(long)) > 0 {
		t.Error("an image of 1000000 instructions is valid")
	}
	for _, d := range []impl.Datum{branchingDatum(200), nested(deepNesting), list(atoms(1000000)...)} {
		huge := impl.Image{Codes: []impl.Code{{Instrs: []impl.Instr{constantInstr(d), instr(impl.OpReturn, 0)}}}}
		if _, ok := impl.StackDepths(huge, 0); ok || impl.IsImage(huge, 0) || len(impl.FormatImage(huge)) > 0 || impl.IsObject(impl.Object{Name: "a", Image: huge}) {
			t.Error("an image with a huge constant is valid")
		}
		if _, ok := impl.LinkObjects([]impl.Object{{Name: "a", Image: huge}}); ok {
			t.Error("an image with a huge constant is linked")
		}
	}
	// As many constants, of as many nodes, as a valid image may have.
	var large impl.Image
	for k := range 4 {
		c := ofInstrs(t, 4000)
		for i := range 3990 {
			if k < 3 || i < 3800 {
				c.Instrs[i] = [2]impl.Instr{constantInstr(list(atoms(599)...)), instr(impl.OpPop, 0)}[i%2]
			}
		}
		large.Codes = append(large.Codes, c)
	}
	large.Codes[3].Instrs = append(large.Codes[3].Instrs[:3800], instrs(t, "enter 0; pop; enter 1; pop; enter 2; return")...)
	large.Main = 3
	lines := impl.FormatImage(large)
	if got, ok := impl.ParseImage(lines); !ok || !impl.EqualImages(got, large) || len(lines) != 4+12000+3806 {
		t.Errorf("a large image is read as %v from %d lines", ok, len(lines))
	}
}

// imagesOfOneChange returns images that differ from a valid one in one field
// each.
func imagesOfOneChange(t *testing.T, m impl.Image) []impl.Image {
	t.Helper()
	var result []impl.Image
	add := func(change func(m *impl.Image)) {
		other := copiedImage(m)
		change(&other)
		result = append(result, other)
	}
	add(func(m *impl.Image) { m.Main++ })
	add(func(m *impl.Image) { m.Codes = m.Codes[1:] })
	add(func(m *impl.Image) { m.Codes = m.Codes[:len(m.Codes)-1] })
	add(func(m *impl.Image) { m.Codes = append(m.Codes, m.Codes[0]) })
	add(func(m *impl.Image) { m.Codes = append(m.Codes, impl.Code{}) })
	for k, c := range m.Codes {
		add(func(m *impl.Image) { m.Codes[k].Params++ })
		add(func(m *impl.Image) { m.Codes[k].Slots++ })
		add(func(m *impl.Image) { m.Codes[k].Captures-- })
		add(func(m *impl.Image) { m.Codes[k].Instrs = append(m.Codes[k].Instrs, impl.Instr{}) })
		for i, x := range c.Instrs {
			add(func(m *impl.Image) { m.Codes[k].Instrs = slices.Delete(m.Codes[k].Instrs, i, i+1) })
			add(func(m *impl.Image) { m.Codes[k].Instrs[i].Op++ })
			add(func(m *impl.Image) { m.Codes[k].Instrs[i].A++ })
			add(func(m *impl.Image) { m.Codes[k].Instrs[i].Datum.Kind++ })
			add(func(m *impl.Image) { m.Codes[k].Instrs[i].Datum.Number++ })
			add(func(m *impl.Image) { m.Codes[k].Instrs[i].Datum.Text += "a" })
			add(func(m *impl.Image) { m.Codes[k].Instrs[i].Datum.Items = append(x.Datum.Items, list()) })
		}
	}
	return result
}

func copiedImage(m impl.Image) impl.Image {
	codes := m.Codes
	m.Codes = nil
	for _, c := range codes {
		instrs := c.Instrs
		c.Instrs = nil
		for _, x := range instrs {
			x.Datum = cloneWithSpare([]impl.Datum{x.Datum})[0]
			c.Instrs = append(c.Instrs, x)
		}
		m.Codes = append(m.Codes, c)
	}
	return m
}

func TestEqualImages(t *testing.T) {
	for _, source := range []string{"0 0 0: constant (a (1 \"b\")); return", "1 2 0: new-box 1; constant #t; write-local 1; return / 0 0 2: captured 1; closure 0; return"} {
		m := image(t, source)
		for _, other := range imagesOfOneChange(t, m) {
			if impl.EqualImages(m, other) || impl.EqualImages(other, m) || !impl.EqualImages(other, copiedImage(other)) {
				t.Errorf("EqualImages of %s and %s", showImage(m), showImage(other))
			}
		}
		if !impl.EqualImages(m, copiedImage(m)) {
			t.Errorf("%s is not equal to its copy", showImage(m))
		}
	}
	empty := impl.Image{Codes: []impl.Code{{Instrs: []impl.Instr{}}}}
	if !impl.EqualImages(impl.Image{}, impl.Image{Codes: []impl.Code{}}) || !impl.EqualImages(empty, impl.Image{Codes: []impl.Code{{}}}) || impl.EqualImages(impl.Image{}, empty) {
		t.Error("EqualImages of empty slices")
	}
	if !impl.EqualImages(impl.Image{Codes: []impl.Code{{Instrs: []impl.Instr{{Op: 3, Datum: impl.Datum{Items: []impl.Datum{}}}}}}}, impl.Image{Codes: []impl.Code{{Instrs: []impl.Instr{{Op: 3}}}}}) {
		t.Error("EqualImages of a datum with an empty slice")
	}
	g := generator(331)
	for range 3000 {
		a, b := g.anyImage(), g.anyImage()
		if g.below(2) == 0 {
			b = g.changedImage(a)
		}
		if got := impl.EqualImages(a, b); got != sameImage(a, b) {
			t.Errorf("EqualImages(%s, %s) = %v", showImage(a), showImage(b), got)
		}
	}
}

func TestFormatImage(t *testing.T) {
	for _, s := range []struct {
		source string
		lines  []string
	}{
		{"0 0 0: constant 1; return", []string{"code 0 0 0", "constant 1", "return"}}, {"0 500 2: captured 1; tail-call 0", []string{"code 0 500 2", "captured 1", "tail-call 0"}},
		{"1 1 0: local 0; return / 0 0 0: constant 1; return", nil}, {"0 0 0: constant 1; pop", nil},
		{"1 3 0: box-param 0; new-box 2; read-local 0; write-local 2; return / 0 0 1: closure 0; jump-if-false 4; constant (quote a); jump 5; read-box 0; return", []string{"code 1 3 0", "box-param 0", "new-box 2", "read-local 0", "write-local 2", "return", "code 0 0 1", "closure 0", "jump-if-false 4", "constant (quote a)", "jump 5", "read-box 0", "return"}},
		{"1 1 0: constant \"a b\"; return / 0 0 0: shift 0; return / 0 0 0: reset 1; pop; primitive 13; constant 2; call 1; return", []string{"code 1 1 0", "constant \"a b\"", "return", "code 0 0 0", "shift 0", "return", "code 0 0 0", "reset 1", "pop", "primitive 13", "constant 2", "call 1", "return"}},
	} {
		m := image(t, s.source)
		if got := impl.FormatImage(m); !slices.Equal(got, s.lines) {
			t.Errorf("FormatImage(%s) = %q, not %q", s.source, got, s.lines)
		}
		checkImage(t, m, len(s.lines) > 0)
	}
}

func TestParseImage(t *testing.T) {
	none := impl.Image{}
	for _, lines := range [][]string{
		nil, {}, {""}, {"", ""}, {"code 0 0 0"}, {"constant 1", "return"}, {"return"}, {"code", "constant 1", "return"}, {"code ", "constant 1", "return"}, {"code 0", "constant 1", "return"}, {"code 0 0", "constant 1", "return"}, {"code 0 0 0 0", "constant 1", "return"}, {"code 0 0 0 ", "constant 1", "return"}, {" code 0 0 0", "constant 1", "return"}, {"code  0 0 0", "constant 1", "return"}, {"code 0  0 0", "constant 1", "return"}, {"code 0 0 0\n", "constant 1", "return"}, {"code\t0 0 0", "constant 1", "return"},
		{"code 00 0 0", "constant 1", "return"}, {"code 0 01 0", "constant 1", "return"}, {"code 0 0 -0", "constant 1", "return"}, {"code 0 +0 0", "constant 1", "return"}, {"code 0 a 0", "constant 1", "return"}, {"code 0,0,0", "constant 1", "return"}, {"code -1 0 0", "constant 1", "return"}, {"code 0 -1 0", "constant 1", "return"}, {"code 0 0 -1", "constant 1", "return"}, {"code 0 501 0", "constant 1", "return"}, {"code 0 0 501", "constant 1", "return"}, {"code 0 999999999999999999999 0", "constant 1", "return"}, {"code 1 1 0", "constant 1", "return"}, {"code 1 0 0", "constant 1", "return"},
		{"Code 0 0 0", "constant 1", "return"}, {"codes 0 0 0", "constant 1", "return"}, {"object 0 0 0", "constant 1", "return"}, {"code 0 0 0", "", "constant 1", "return"}, {"", "code 0 0 0", "constant 1", "return"}, {"code 0 0 0", "constant 1", "return", ""}, {"code 0 0 0", "constant 1", "", "return"}, {"code 0 0 0", "constant 01", "return"}, {"code 0 0 0", "constant 1 ", "return"}, {"code 0 0 0", "constant 'a", "return"}, {"code 0 0 0", "constant 1", "return 0"}, {"code 0 0 0", "constant 1", "returns"}, {"code 0 0 0", "constant 1; return"}, {"code 0 0 0", "constant 1\nreturn"}, {"code 0 0 0 constant 1", "return"},
		{"code 0 0 0", "return", "constant 1"}, {"constant 1", "code 0 0 0", "return"}, {"constant 1", "return", "code 0 0 0"}, {"code 0 0 0", "constant 1"}, {"code 0 0 0", "return"}, {"code 0 0 0", "code 0 0 0", "constant 1", "return"}, {"code 0 0 0", "constant 1", "return", "code 0 0 0"}, {"code 0 0 0", "constant 1", "return", "code 0 0 0", "constant 1", "return"}, {"code 0 0 0", "constant 1", "return", "return 1"}, {"code 0 0 0", "constant 1", "return", "local 0"}, {"code 0 0 0", "constant 1", "return", "defines"},
		{"code 0 0 0", "closure 1", "return", "code 0 0 0", "constant 1", "return"}, {"code 0 0 0", "constant 1", "return", "code 0 0 0", "closure 1", "return"}, {"code 0 0 0", "constant 1", "return", "code 0 0 0", "shift 0", "return"},
	} {
		checkLines(t, lines, none)
	}
	checkLines(t, []string{"code 0 0 0", "constant 1", "return"}, image(t, "0 0 0: constant 1; return"))
	checkLines(t, []string{"code 0 0 0", "constant 1", "return", "return"}, image(t, "0 0 0: constant 1; return; return"))
	checkLines(t, []string{"code 0 0 0", "constant 1", "return", "code 0 0 7", "closure 0", "return"}, image(t, "0 0 0: constant 1; return / 0 0 7: closure 0; return"))
	checkLines(t, slices.Repeat([]string{"code 0 0 0"}, 1000000), none)
	checkLines(t, append([]string{"code 0 0 0"}, slices.Repeat([]string{"pop"}, 1000000)...), none)
	checkLines(t, []string{"code 0 0 0", strings.Repeat("return ", 100000), "return"}, none)
	checkLines(t, []string{"code" + strings.Repeat(" 0", 100000), "constant 1", "return"}, none)
}

// Lines of a valid image that are missing, added, in another order, or of
// another one.
func TestChangedLinesOfImages(t *testing.T) {
	g := generator(337)
	good, all := 0, 0
	for i := range 400 {
		m, ok := impl.CompileCore(g.program(2 + i%3))
		if !ok {
			continue
		}
		lines := impl.FormatImage(m)
		for range 20 {
			changed := g.changedLines(lines)
			wanted, ok := describedImage(changed)
			all++
			good += count(ok)
			if got, fine := impl.ParseImage(changed); fine != ok || !sameImage(got, wanted) {
				t.Fatalf("ParseImage(%s) = %s, %v, not %s", showLines(changed), showImage(got), fine, showImage(wanted))
			}
		}
	}
	if good < all/20 || good > all/2 {
		t.Errorf("%d of %d texts are those of images", good, all)
	}
}

func (g *generator) changedLines(lines []string) []string {
	changed := slices.Clone(lines)
	at, other := g.below(len(lines)), g.below(len(lines))
	switch g.below(7) {
	case 0:
		return slices.Delete(changed, at, at+1)
	case 1:
		return slices.Insert(changed, at, lines[other])
	case 2:
		changed[at], changed[other] = changed[other], changed[at]
	case 3, 4:
		changed[at] = g.nearText(lines[at])
	case 5:
		return changed[:at]
	case 6:
		changed[at] = strings.Replace(lines[at], fmt.Sprint(g.below(3)), fmt.Sprint(g.below(4)), 1)
	}
	return changed
}

// anyImage returns an image of any fields.
func (g *generator) anyImage() impl.Image {
	var m impl.Image
	for range g.below(3) {
		c := impl.Code{Params: g.below(3) - 1, Slots: g.below(4), Captures: g.below(3) - 1}
		for range g.below(3) {
			c.Instrs = append(c.Instrs, g.anyInstr())
		}
		m.Codes = append(m.Codes, c)
	}
	m.Main = g.below(4) - 1
	return m
}

// changedImage returns a copy in which one field is another one.
func (g *generator) changedImage(m impl.Image) impl.Image {
	m = copiedImage(m)
	if len(m.Codes) == 0 {
		return m
	}
	k := g.below(len(m.Codes))
	c := &m.Codes[k]
	n := []int{-1, 0, 1, 2, 8, 9, 500, 501, g.below(20), leastInt, greatestInt}[g.below(11)]
	switch g.below(14) {
	case 0:
		m.Main = n
	case 1:
		c.Params = n
	case 2:
		c.Slots = n
	case 3:
		c.Captures = n
	case 4:
		m.Codes = slices.Delete(m.Codes, k, k+1)
	case 5:
		m.Codes = append(m.Codes, *c)
		m.Main = len(m.Codes) - 1
	case 6:
		other := g.below(len(m.Codes))
		m.Codes[k], m.Codes[other] = m.Codes[other], m.Codes[k]
	default:
		if len(c.Instrs) > 0 {
			c.Instrs = g.changedInstrs(c.Instrs, n)
		}
	}
	return m
}

func (g *generator) changedInstrs(list []impl.Instr, n int) []impl.Instr {
	at, other := g.below(len(list)), g.below(len(list))
	switch g.below(8) {
	case 0:
		list[at].Op = 1 + g.below(20)
	case 1:
		list[at].A = n
	case 2:
		list[at].A += 1 - 2*g.below(2)
	case 3:
		list[at] = list[other]
	case 4:
		list[at], list[other] = list[other], list[at]
	case 5:
		return slices.Delete(list, at, at+1)
	case 6:
		return slices.Insert(list, at, list[other])
	case 7:
		list[at] = g.anyInstr()
	}
	return list
}

func TestChangedImages(t *testing.T) {
	g := generator(347)
	good, all := 0, 0
	for i := range 1500 {
		m, ok := impl.CompileCore(g.program(2 + i%3))
		if !ok {
			continue
		}
		for range 6 {
			changed := g.changedImage(m)
			all++
			wanted := isGoodAtLast(changed)
			good += count(wanted)
			checkImage(t, changed, wanted)
			for k := range changed.Codes {
				depths, _ := describedDepths(changed, k)
				checkDepths(t, changed, k, depths)
			}
		}
		if t.Failed() {
			return
		}
	}
	if good < all/10 || good > all*2/3 {
		t.Errorf("%d of %d images are valid", good, all)
	}
}
