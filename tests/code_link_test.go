package tests

import (
	"fmt"
	"slices"
	"strings"
	"testing"

	"loop.example/g03220/impl"
)

func TestLinkObjects(t *testing.T) {
	for _, s := range []struct {
		objects []string
		wanted  string
	}{
		{[]string{"a;;;0 0 0: constant 1; return"}, "0 0 0: constant 1; return / 0 0 0: enter 0; return"}, {[]string{"a;7;;0 0 1: constant 1; write-box 0; return"}, "0 0 1: constant 1; write-box 0; return / 0 1 0: new-box 0; local 0; enter 0; return"}, {[]string{"a;9 7 8;;0 0 3: read-box 2; return"}, "0 0 3: read-box 2; return / 0 3 0: new-box 0; new-box 1; new-box 2; local 0; local 1; local 2; enter 0; return"},
		{[]string{"a;;;0 0 0: constant 1; return", "b;;;0 0 0: constant 2; return", "c;;;0 0 0: constant 3; return"}, "0 0 0: constant 1; return / 0 0 0: constant 2; return / 0 0 0: constant 3; return / 0 0 0: enter 0; pop; enter 1; pop; enter 2; return"},
		// What one object defines and another one uses.
		{[]string{"a;5;;0 0 1: constant 1; write-box 0; return", "b;;5;0 0 1: read-box 0; return"}, "0 0 1: constant 1; write-box 0; return / 0 0 1: read-box 0; return / 0 1 0: new-box 0; local 0; enter 0; pop; local 0; enter 1; return"}, {[]string{"b;2 1;;0 0 2: constant 1; return", "a;0;1 2;0 0 3: read-box 2; return"}, "0 0 2: constant 1; return / 0 0 3: read-box 2; return / 0 3 0: new-box 0; new-box 1; new-box 2; local 0; local 1; enter 0; pop; local 2; local 1; local 0; enter 1; return"},
		{[]string{"a;1;;0 0 1: constant 1; return", "b;2;;0 0 1: constant 1; return", "c;3;2;0 0 2: constant 1; return", "d;;3 1;0 0 2: constant 1; return"}, "0 0 1: constant 1; return / 0 0 1: constant 1; return / 0 0 2: constant 1; return / 0 0 2: constant 1; return / 0 3 0: new-box 0; new-box 1; new-box 2; local 0; enter 0; pop; local 1; enter 1; pop; local 2; local 1; enter 2; pop; local 2; local 0; enter 3; return"},
		// Names of codes are moved, and nothing else.
		{[]string{"a;;;0 0 0: constant 1; return / 0 0 0: closure 0; return", "b;;;1 1 0: local 0; return / 0 0 0: shift 0; return / 0 0 0: reset 1; pop; primitive 1; constant 0; call 1; jump-if-false 6; constant (closure 0); return"}, "0 0 0: constant 1; return / 0 0 0: closure 0; return / 1 1 0: local 0; return / 0 0 0: shift 2; return / 0 0 0: reset 3; pop; primitive 1; constant 0; call 1; jump-if-false 6; constant (closure 0); return / 0 0 0: enter 1; pop; enter 4; return"},
		{[]string{"a;;;0 0 0: constant 1; return", "b;;;0 0 0: constant 2; return / 0 0 0: enter 0; return", "c;1;;0 0 0: constant 3; return / 1 2 1: new-box 1; local 0; write-local 1; box-param 0; pop; read-box 0; return / 0 0 1: enter 0; pop; captured 0; closure 1; jump 5; return"}, "0 0 0: constant 1; return / 0 0 0: constant 2; return / 0 0 0: enter 1; return / 0 0 0: constant 3; return / 1 2 1: new-box 1; local 0; write-local 1; box-param 0; pop; read-box 0; return / 0 0 1: enter 3; pop; captured 0; closure 4; jump 5; return / 0 1 0: new-box 0; enter 0; pop; enter 2; pop; local 0; enter 5; return"},
		// In another order, where none needs the other one.
		{[]string{"b;2;;0 0 1: constant 2; return", "a;1;;0 0 1: constant 1; return"}, "0 0 1: constant 2; return / 0 0 1: constant 1; return / 0 2 0: new-box 0; new-box 1; local 0; enter 0; pop; local 1; enter 1; return"},
	} {
		checkLinked(t, objectsOf(t, s.objects...), image(t, s.wanted))
	}
}

func TestLinkObjectsThatDoNotFit(t *testing.T) {
	none := impl.Image{}
	checkLinked(t, nil, none)
	checkLinked(t, []impl.Object{}, none)
	checkLinked(t, []impl.Object{{}}, none)
	checkLinked(t, []impl.Object{{Name: "a"}}, none)
	one := "0 0 1: constant 1; return"
	two := "0 0 2: constant 1; return"
	for _, list := range [][]string{
		// Two of the same name.
		{"a;;;0 0 0: constant 1; return", "a;;;0 0 0: constant 1; return"}, {"a;1;;" + one, "b;2;;" + one, "a;3;;" + one},
		// A variable that is defined twice.
		{"a;1;;" + one, "b;1;;" + one}, {"a;1 2;;" + two, "b;3;;" + one, "c;4 2;;" + two}, {"a;1 1;;" + two},
		// One that is used before it is defined, or in the object that defines it.
		{"a;;1;" + one, "b;1;;" + one}, {"a;2;;" + one, "b;;1;" + one, "c;1;;" + one}, {"a;1;1;" + two}, {"a;1;;" + one, "b;2;2;" + two}, {"a;1;2;" + two, "b;2;1;" + two},
		// One that is never defined.
		{"a;;1;" + one}, {"a;1;2;" + two}, {"a;1;;" + one, "b;;2;" + one}, {"a;1;;" + one, "b;;1 2;" + two},
		// Objects that are not valid.
		{"A;1;;" + one}, {"a;1;;" + two}, {"a;-1;;" + one}, {"a;100000;;" + one}, {"a;;;0 0 0: constant 1"}, {"a;;;0 0 0: constant 1; return", "b;;;0 0 0: constant 1"}, {"a;;;0 0 0: constant 1; return", ";;;0 0 0: constant 1; return"}, {"a;;;0 0 0: constant 1; return / 0 0 0: constant 1; return"}, {"a;;;0 0 0: constant 1; return; closure 0 / 0 0 0: constant 1; return"}, {"a;;;1 1 0: constant 1; return"}, {"a;;;0 0 0: constant 1; return", "b;;;0 0 1: constant 1; return"},
	} {
		checkLinked(t, objectsOf(t, list...), none)
	}
	o := plainObject("a", nil, nil)
	for _, main := range []int{-1, 1} {
		o.Image.Main = main
		checkLinked(t, []impl.Object{o}, none)
	}
	// The second use of a variable that the first object defines is none.
	checkLinked(t, []impl.Object{plainObject("a", []int{1}, nil), plainObject("b", nil, []int{1, 1})}, none)
}

// objectsWith returns objects that do nothing, each with this many of Defines,
// and uses of what the first one defines.
func objectsWith(defines []int, uses []int) []impl.Object {
	var list []impl.Object
	next := 0
	for i := range defines {
		list = append(list, plainObject(fmt.Sprint("o", i), from(next, defines[i]), from(0, uses[i])))
		next += defines[i]
	}
	return list
}

func TestLinkUpToTheLimits(t *testing.T) {
	check := func(label string, list []impl.Object, ok bool) {
		t.Helper()
		for _, o := range list {
			if !isGoodObject(o) {
				t.Errorf("%s: an object is not valid", label)
			}
		}
		wanted, fine := describedLink(list)
		if fine != ok {
			t.Errorf("%s: the description has %v", label, fine)
		}
		checkLinked(t, list, wanted)
	}
	for _, many := range []int{1, 2, 11, 12, 13, 14} {
		check(fmt.Sprint(many, " objects"), objectsWith(make([]int, many), make([]int, many)), many <= 12)
		check(fmt.Sprint(many, " objects with variables"), objectsWith(slices.Repeat([]int{3}, many), append([]int{0}, slices.Repeat([]int{2}, many-1)...)), many <= 12)
	}
	for _, slots := range []int{499, 500, 501, 600} {
		check(fmt.Sprint(slots, " slots"), objectsWith([]int{200, slots - 200}, []int{0, 0}), slots <= 500)
		check(fmt.Sprint(slots, " slots and uses"), objectsWith([]int{300, slots - 300, 0}, []int{0, 10, 300}), slots <= 500)
	}
	// The codes of the objects, and one more.
	for _, codes := range []int{1498, 1499, 1500, 1501} {
		list := []impl.Object{{Name: "a", Image: ofCodes(t, 700)}, {Name: "b", Image: ofCodes(t, codes-701)}}
		check(fmt.Sprint(codes, " codes"), list, codes <= 1500)
		check(fmt.Sprint(codes, " codes of one object"), []impl.Object{{Name: "a", Image: ofCodes(t, min(codes-1, 1500))}}, codes <= 1500)
	}
	// The main code has, for 400 variables and seven objects that use 398 of them, 800
	// instructions and 7 times 400, and a few more.
	for _, uses := range []int{395, 396, 397, 398} {
		list := objectsWith([]int{400, 0, 0, 0, 0, 0, 0, 0, 0}, []int{0, 398, 398, 398, 398, 398, 398, 398, uses})
		main := 400 + 400 + 1 + 7*(398+2) + uses + 2 + 1
		check(fmt.Sprint(main, " instructions in the main code"), list, main <= 4000)
	}
	// The instructions of all codes: of four objects, of which each but the last one
	// has 4000, and eight.
	for _, last := range []int{3990, 3991, 3992, 3993, 3994} {
		var list []impl.Object
		for i, many := range []int{4000, 4000, 4000, last} {
			list = append(list, impl.Object{Name: fmt.Sprint("o", i), Image: impl.Image{Codes: []impl.Code{ofInstrs(t, many)}}})
		}
		check(fmt.Sprint(12000+last+8, " instructions"), list, last+8 <= 4000)
	}
	// As many captured variables as there may be.
	check("500 captured variables", objectsWith([]int{500, 0}, []int{0, 500}), true)
	check("500 captured variables, some of which are its own", objectsWith([]int{300, 200}, []int{0, 300}), true)
}

// P9: linking defines each variable once, before it is used by a later object.
func TestP9LinkedUnits(t *testing.T) {
	g := generator(379)
	linked, codes := 0, 0
	for range 1500 {
		list := g.anyUnits()
		var objects []impl.Object
		for _, u := range list {
			if o, ok := impl.CompileUnit(u); ok {
				objects = append(objects, o)
			}
		}
		switch g.below(8) {
		case 0:
			slices.Reverse(objects)
		case 1:
			if len(objects) > 0 {
				objects = objects[1:]
			}
		case 2:
			if len(objects) > 0 {
				objects = append(objects, objects[g.below(len(objects))])
			}
		case 3:
			if len(objects) > 0 {
				k := g.below(len(objects))
				objects[k] = g.changedObject(objects[k])
			}
		}
		wanted, ok := describedLink(objects)
		checkLinked(t, objects, wanted)
		if areGoodUnits(list) && len(list) > 0 && len(objects) == len(list) && linksInOrder(objects) != ok {
			t.Errorf("objects that define their variables in order are linked: %v", ok)
		}
		linked, codes = linked+count(ok), codes+len(wanted.Codes)
		if t.Failed() {
			return
		}
	}
	if linked < 500 || linked > 1400 || codes < 4*linked {
		t.Errorf("%d of 1500 lists are linked, with %d codes", linked, codes)
	}
}

// linksInOrder describes valid objects that can be linked, as long as they are
// small.
func linksInOrder(list []impl.Object) bool {
	defined := map[int]bool{}
	names := map[string]bool{}
	for _, o := range list {
		if names[o.Name] || !isGoodObject(o) {
			return false
		}
		names[o.Name] = true
		for _, n := range o.Uses {
			if !defined[n] {
				return false
			}
		}
		for _, n := range o.Defines {
			if defined[n] {
				return false
			}
			defined[n] = true
		}
	}
	return true
}

// The text of a program that is compiled unit by unit, written, read again and
// linked.
func TestP9Modules(t *testing.T) {
	for _, s := range []struct {
		source string
		lines  []string
	}{
		{"(module p () (a) (define a 3)) (module main (p) () (+ a 1))", []string{"code 0 0 1", "constant 3", "write-box 0", "return", "code 0 0 1", "primitive 0", "read-box 0", "constant 1", "tail-call 2", "code 0 1 0", "new-box 0", "local 0", "enter 0", "pop", "local 0", "enter 1", "return"}},
		{"(module p () (f) (define (f x) (let ((y x)) (set! y (+ y 1)) y))) (module q (p) () (f (f 1)))", []string{"code 1 1 0", "box-param 0", "primitive 0", "read-local 0", "constant 1", "call 2", "write-local 0", "pop", "read-local 0", "return", "code 1 1 0", "closure 0", "local 0", "tail-call 1", "code 0 0 1", "closure 1", "write-box 0", "return", "code 0 0 1", "read-box 0", "read-box 0", "constant 1", "call 1", "tail-call 1", "code 0 1 0", "new-box 0", "local 0", "enter 2", "pop", "local 0", "enter 3", "return"}},
		{"(module p () () (while #f 1))", []string{"code 0 0 1", "constant #f", "jump-if-false 6", "constant 1", "pop", "read-box 0", "tail-call 0", "constant #f", "return", "code 0 1 0", "new-box 0", "local 0", "closure 0", "write-local 0", "pop", "read-local 0", "tail-call 0", "code 0 0 0", "closure 1", "tail-call 0", "code 0 0 0", "enter 2", "return"}},
	} {
		var objects []impl.Object
		for _, u := range mustLoad(t, s.source).Units {
			o, _ := impl.CompileUnit(u)
			read, ok := impl.ParseObject(impl.FormatObject(o))
			if !ok || !sameObject(read, o) {
				t.Errorf("%s: the object %s is read as %s, %v", s.source, showObject(o), showObject(read), ok)
			}
			objects = append(objects, read)
		}
		m, ok := impl.LinkObjects(objects)
		if got := impl.FormatImage(m); !ok || !slices.Equal(got, s.lines) {
			t.Errorf("%s is linked to %q, %v, not %q", s.source, got, ok, s.lines)
		}
	}
}

func TestP9PlannedPrograms(t *testing.T) {
	linked := 0
	plannedPrograms(383, 120, 1, func(p plannedProgram) {
		w, ok := loadSources(t, p.sources)
		if !ok {
			return
		}
		optimized, _ := impl.OptimizeUnits(w.Units)
		for _, list := range [][]impl.Unit{w.Units, optimized} {
			var objects []impl.Object
			for _, u := range list {
				wanted, _ := describedCompiledUnit(u)
				checkCompiledUnit(t, u, wanted)
				objects = append(objects, wanted)
			}
			wanted, ok := describedLink(objects)
			if !ok {
				t.Errorf("%s are not linked", strings.Join(p.sources, "\n"))
			}
			checkLinked(t, objects, wanted)
			linked++
		}
	})
	if linked < 100 {
		t.Errorf("only %d programs are linked", linked)
	}
}
