package tests

import (
	"slices"
	"testing"

	"loop.example/g03220/impl"
)

var (
	spareInstr  = impl.Instr{Op: 77, A: 77}
	spareCode   = impl.Code{Params: 77, Slots: 77}
	spareObject = impl.Object{Name: spareText}
)

// These copy into slices with spare capacity, behind which a marker shows
// whether it was written to.
func instrsWithSpare(list []impl.Instr) []impl.Instr {
	result := withSpare(list, spareInstr)
	for i, x := range result {
		result[i].Datum = cloneWithSpare([]impl.Datum{x.Datum})[0]
	}
	return result
}

func imageWithSpare(m impl.Image) impl.Image {
	m.Codes = withSpare(m.Codes, spareCode)
	for k, c := range m.Codes {
		m.Codes[k].Instrs = instrsWithSpare(c.Instrs)
	}
	return m
}

func objectWithSpare(o impl.Object) impl.Object {
	return impl.Object{Name: o.Name, Defines: scopesWithSpare(o.Defines), Uses: scopesWithSpare(o.Uses), Image: imageWithSpare(o.Image)}
}

func objectsWithSpare(list []impl.Object) []impl.Object {
	result := withSpare(list, spareObject)
	for i, o := range result {
		result[i] = objectWithSpare(o)
	}
	return result
}

func spareImageIsIntact(m impl.Image) bool {
	for _, c := range m.Codes {
		for _, x := range c.Instrs {
			if !spareIsIntact(x.Datum.Items) {
				return false
			}
		}
		if !isSpareIntact(c.Instrs, sameInstr, spareInstr) {
			return false
		}
	}
	return isSpareIntact(m.Codes, sameCode, spareCode)
}

func spareObjectIsIntact(o impl.Object) bool {
	return spareScopesAreIntact(o.Defines) && spareScopesAreIntact(o.Uses) && spareImageIsIntact(o.Image)
}

// codeMemory is what was seen of images and objects, and of what they have.
type codeMemory struct {
	coreMemory
	codes  map[*impl.Code]bool
	instrs map[*impl.Instr]bool
	lines  map[*string]bool
}

func newCodeMemory() codeMemory {
	return codeMemory{newCoreMemory(), map[*impl.Code]bool{}, map[*impl.Instr]bool{}, map[*string]bool{}}
}

// sharesImage reports whether an element of a slice within m, or of its spare
// capacity, was seen before; it adds all of them to those seen.
func (m codeMemory) sharesImage(x impl.Image) bool {
	for _, c := range x.Codes[:cap(x.Codes)] {
		for _, x := range c.Instrs[:cap(c.Instrs)] {
			if m.sharesDatum(x.Datum) {
				return true
			}
		}
		if sharesElements(c.Instrs, m.instrs) {
			return true
		}
	}
	return sharesElements(x.Codes, m.codes)
}

func (m codeMemory) sharesObject(o impl.Object) bool {
	return m.sharesScopes(o.Defines) || m.sharesScopes(o.Uses) || m.sharesImage(o.Image)
}

func (m codeMemory) sharesLines(lines []string) bool { return sharesElements(lines, m.lines) }

// sampleImages returns images, valid and not, in slices with spare capacity.
func sampleImages(t *testing.T, seed int) []impl.Image {
	t.Helper()
	g := generator(seed)
	images := []impl.Image{{}, {Codes: []impl.Code{{}}}, {Codes: []impl.Code{{Instrs: []impl.Instr{constantInstr(impl.Datum{Items: make([]impl.Datum, 0, 4)}), instr(impl.OpReturn, 0)}}}}, image(t, "0 0 0: constant (1 (2 ())); return / 0 0 0: closure 0; return")}
	for i := range 200 {
		m, _ := impl.CompileCore(g.program(2 + i%4))
		images = append(images, m, g.changedImage(m), g.anyImage())
	}
	for i, m := range images {
		images[i] = imageWithSpare(m)
	}
	return images
}

func TestImagesAreNotModified(t *testing.T) {
	images, same := sampleImages(t, 389), sampleImages(t, 389)
	for i, m := range images {
		for k := -1; k <= len(m.Codes); k++ {
			impl.StackDepths(m, k)
		}
		impl.IsImage(m, 0)
		impl.IsImage(m, 1)
		impl.EqualImages(m, images[(i+1)%len(images)])
		lines := impl.FormatImage(m)
		marked := withSpare(lines, spareText)
		impl.ParseImage(marked)
		for _, c := range m.Codes {
			for _, x := range c.Instrs {
				impl.FormatInstr(x)
			}
		}
		if !slices.Equal(marked, lines) || !isSpareIntact(marked, sameText, spareText) {
			t.Errorf("the lines of %s were modified", showImage(same[i]))
		}
		if !sameImage(m, same[i]) || !spareImageIsIntact(m) {
			t.Errorf("%s was modified", showImage(same[i]))
		}
	}
}

func TestImagesShareNoMemory(t *testing.T) {
	depths, read := 0, 0
	for _, m := range sampleImages(t, 397) {
		seen := newCodeMemory()
		if seen.sharesImage(m) {
			t.Fatal("the argument shares memory with itself")
		}
		for range 2 {
			for k := range m.Codes {
				list, ok := impl.StackDepths(m, k)
				depths += count(ok)
				if seen.sharesScopes(list) {
					t.Errorf("the result of StackDepths(%s, %d) shares memory", showImage(m), k)
				}
			}
			lines := impl.FormatImage(m)
			got, ok := impl.ParseImage(lines)
			read += count(ok)
			if seen.sharesLines(lines) || seen.sharesImage(got) {
				t.Errorf("the result of FormatImage or ParseImage for %s shares memory", showImage(m))
			}
			for _, c := range m.Codes {
				for _, x := range c.Instrs {
					if got, _ := impl.ParseInstr(impl.FormatInstr(x)); seen.sharesDatum(got.Datum) {
						t.Errorf("the result of ParseInstr for %s shares memory", instrLine(x))
					}
				}
			}
		}
	}
	if depths < 500 || read < 300 {
		t.Errorf("only %d codes have depths, and %d images are read", depths, read)
	}
}

func TestCompiledTermsAreNotModified(t *testing.T) {
	sample := func() []impl.Core {
		g := generator(401)
		cores := sampleCores(t, 409)
		for i := range 300 {
			cores = append(cores, g.program(2+i%4))
		}
		roomy := constant(impl.Datum{Items: make([]impl.Datum, 0, 4)})
		return coresWithSpare(append(cores, roomy, procedure(nil, roomy), constant(list(list(), list(symbol("a"))))))
	}
	cores, same := sample(), sample()
	compiled := 0
	for i, c := range cores {
		seen := newCodeMemory()
		if seen.sharesCore(c) {
			t.Fatal("the argument shares memory with itself")
		}
		for range 2 {
			m, ok := impl.CompileCore(c)
			o, fine := impl.CompileUnit(unit("a", nil, c))
			compiled += count(ok) + count(fine)
			if seen.sharesImage(m) || seen.sharesObject(o) {
				t.Errorf("the result of CompileCore or CompileUnit for %s shares memory", showTerm(c))
			}
		}
		if !sameCore(c, same[i]) || !spareCoreIsIntact(c) {
			t.Errorf("%s was modified", showCore(same[i]))
		}
	}
	if compiled < 1500 {
		t.Errorf("only %d terms are compiled", compiled)
	}
}

// Parts that stand in several places of a term are copied for each place.
func TestPartsOfCompiledTermsAreCopied(t *testing.T) {
	part := coresWithSpare([]impl.Core{constant(list(symbol("a"), list(number(1))))})[0]
	seen := newCodeMemory()
	if seen.sharesCore(part) {
		t.Fatal("the part shares memory with itself")
	}
	for _, c := range []impl.Core{part, node(impl.CoreIf, part, part, part), sequence(part, procedure(nil, part), within(2, part)), called(part, part)} {
		m, ok := impl.CompileCore(c)
		if !ok || seen.sharesImage(m) {
			t.Errorf("the image %s of %s shares memory", showImage(m), showTerm(c))
		}
		o, ok := impl.CompileUnit(unit("a", []int{1}, c))
		if !ok || seen.sharesObject(o) {
			t.Errorf("the object %s of %s shares memory", showObject(o), showTerm(c))
		}
	}
}

// sampleObjects returns lists of objects, valid and not, that can be linked or
// not.
func sampleObjects(t *testing.T, seed int) [][]impl.Object {
	t.Helper()
	g := generator(seed)
	lists := [][]impl.Object{nil, objectsOf(t, "a;1 2;;0 0 0: constant (1 (2)); return / 0 0 2: closure 0; return", "b;3;2 1;0 0 3: constant (3); return"), {plainObject("a", []int{5}, nil)}}
	for i := range 200 {
		var list []impl.Object
		for _, u := range g.anyUnits() {
			o, ok := impl.CompileUnit(u)
			if ok {
				list = append(list, o)
			}
		}
		if i%4 == 0 && len(list) > 0 {
			list[0] = g.changedObject(list[0])
		}
		lists = append(lists, list)
	}
	for i, list := range lists {
		lists[i] = objectsWithSpare(list)
	}
	return lists
}

func TestObjectsAreNotModified(t *testing.T) {
	lists, same := sampleObjects(t, 419), sampleObjects(t, 419)
	read, linked := 0, 0
	for i, list := range lists {
		seen := newCodeMemory()
		for k, o := range list {
			if seen.sharesObject(o) {
				t.Fatal("the argument shares memory with itself")
			}
			impl.IsObject(o)
			for range 2 {
				lines := impl.FormatObject(o)
				marked := withSpare(lines, spareText)
				got, ok := impl.ParseObject(marked)
				read += count(ok)
				if seen.sharesLines(lines) || seen.sharesObject(got) {
					t.Errorf("the result of FormatObject or ParseObject for %s shares memory", showObject(o))
				}
				if !slices.Equal(marked, lines) || !isSpareIntact(marked, sameText, spareText) {
					t.Errorf("the lines of %s were modified", showObject(same[i][k]))
				}
			}
		}
		for range 2 {
			m, ok := impl.LinkObjects(list)
			linked += count(ok)
			if seen.sharesImage(m) {
				t.Errorf("the result of LinkObjects for %d objects shares memory", len(list))
			}
		}
		for k, o := range list {
			if !sameObject(o, same[i][k]) || !spareObjectIsIntact(o) {
				t.Errorf("%s was modified", showObject(same[i][k]))
			}
		}
		if !isSpareIntact(list, sameObject, spareObject) {
			t.Error("the spare capacity of a list of objects was modified")
		}
	}
	if read < 500 || linked < 150 {
		t.Errorf("only %d objects are read, and %d lists linked", read, linked)
	}
}

// The same object under two names is copied for each of them.
func TestLinkedPartsAreCopied(t *testing.T) {
	m := imageWithSpare(image(t, "0 0 0: constant (1 (2)); return / 0 0 0: closure 0; return"))
	seen := newCodeMemory()
	if seen.sharesImage(m) {
		t.Fatal("the part shares memory with itself")
	}
	got, ok := impl.LinkObjects([]impl.Object{{Name: "a", Image: m}, {Name: "b", Image: m}})
	if !ok || seen.sharesImage(got) || !spareImageIsIntact(m) {
		t.Errorf("the linked image %s shares memory", showImage(got))
	}
}

func TestCompiledUnitsAreNotModified(t *testing.T) {
	sample := func() [][]impl.Unit {
		g := generator(421)
		lists := [][]impl.Unit{units(t, "a;1 2;(begin (set! v1 '(1 2)) (v2 v3 v4))", "b;;(v5 v6)", "c;7;5"), {{}}}
		for range 400 {
			lists = append(lists, g.anyUnits())
		}
		return lists
	}
	lists, same := sample(), sample()
	compiled := 0
	for i, list := range lists {
		list = unitsWithSpare(list)
		for _, u := range list {
			seen := newCodeMemory()
			if seen.sharesScopes(u.Globals) || seen.sharesCore(u.Body) {
				t.Fatal("the argument shares memory with itself")
			}
			for range 2 {
				o, ok := impl.CompileUnit(u)
				compiled += count(ok)
				if seen.sharesObject(o) {
					t.Errorf("the result of CompileUnit(%s) shares memory", showUnits([]impl.Unit{u}))
				}
			}
		}
		if !sameUnits(list, same[i]) || !spareUnitsAreIntact(list) {
			t.Errorf("%s were modified", showUnits(same[i]))
		}
	}
	if compiled < 1000 {
		t.Errorf("only %d units are compiled", compiled)
	}
}

func TestCompileTermsWithEmptySlices(t *testing.T) {
	g := generator(431)
	for i := range 300 {
		c := g.program(2 + i%3)
		wanted, _ := describedCompile(c)
		checkCompiled(t, withEmptySlices(c), wanted)
	}
	checkCompiledUnit(t, unit("a", []int{}, withEmptySlices(constant(list()))), objectOf(t, "a;;;0 0 0: constant (); return"))
	o := plainObject("a", []int{}, []int{})
	o.Image.Codes[0].Instrs[1].Datum.Items = []impl.Datum{}
	checkObject(t, o, true)
	checkLinked(t, []impl.Object{o}, image(t, "0 0 0: constant 1; return / 0 0 0: enter 0; return"))
}

// The result of one call does not depend on those before it.
func TestCompilationsAreIndependent(t *testing.T) {
	g := generator(433)
	var cores []impl.Core
	var images []impl.Image
	for i := range 200 {
		cores = append(cores, g.program(2+i%4))
		m, _ := impl.CompileCore(cores[i])
		images = append(images, m)
	}
	for i, c := range slices.Backward(cores) {
		if got, _ := impl.CompileCore(c); !sameImage(got, images[i]) {
			t.Errorf("CompileCore(%s) = %s, and later %s", showTerm(c), showImage(images[i]), showImage(got))
		}
	}
}
