package tests

import (
	"fmt"
	"regexp"
	"slices"
	"strconv"
	"strings"
	"testing"

	"loop.example/g03220/impl"
)

// The second compiler writes the lines of one code after the other, in the order
// of a list of the nodes that have codes, made before. Jumps have a distance
// until a code is complete, and variables have their numbers.

// A secondCompiler knows the nodes of one term.
type secondCompiler struct {
	boxed  []int
	owners []*impl.Core // the nodes with codes of their own, each behind those within it
}

func ownsCode(c *impl.Core) bool {
	return c.Kind == impl.CoreLambda || c.Kind == impl.CoreReset || c.Kind == impl.CoreShift
}

func (k *secondCompiler) addOwners(c *impl.Core) {
	for i := range c.Kids {
		k.addOwners(&c.Kids[i])
	}
	if ownsCode(c) {
		k.owners = append(k.owners, c)
	}
}

// describedCode returns the lines of a compiled term with these captured
// variables, which are boxed.
func describedCode(c impl.Core, captured []int) []string {
	c = copiedCore(c)
	k := secondCompiler{boxed: slices.Concat(describedBoxed(c), captured)}
	k.addOwners(&c)
	var lines []string
	for _, owner := range k.owners {
		lines = append(lines, k.code(owner.Params, capturedBy(*owner), &owner.Kids[0])...)
	}
	return append(lines, k.code(nil, captured, &c)...)
}

// capturedBy returns the variables that stand in a node and that nothing in it
// binds: in a valid term, nothing binds a variable a second time.
func capturedBy(owner impl.Core) []int {
	known := map[int]bool{}
	for _, n := range describedBound(owner) {
		known[n] = true
	}
	var captured []int
	eachTerm(owner, func(_ []impl.Core, c impl.Core) {
		if usesNumber(c) && !known[c.Number] {
			captured, known[c.Number] = append(captured, c.Number), true
		}
	})
	return captured
}

func (k *secondCompiler) code(params, captured []int, body *impl.Core) []string {
	slots := append(slices.Clone(params), localsIn(body)...)
	lines := []string{fmt.Sprintf("code %d %d %d", len(params), len(slots), len(captured))}
	for i, n := range params {
		if slices.Contains(k.boxed, n) {
			lines = append(lines, fmt.Sprintf("box-param %d", i))
		}
	}
	for _, line := range k.lines(body, true) {
		lines = append(lines, absolute(line, len(lines)-1, slots, captured))
	}
	return lines
}

// localsIn returns the variables of all locals in a code, from the outermost and
// first one on.
func localsIn(c *impl.Core) []int {
	var locals []int
	if c.Kind == impl.CoreLocal {
		locals = append(locals, c.Params...)
	}
	for i := range c.Kids {
		if !ownsCode(c) {
			locals = append(locals, localsIn(&c.Kids[i])...)
		}
	}
	return locals
}

// absolute writes the line at an index with the target of a jump, and with the
// place of a variable.
func absolute(line string, at int, slots, captured []int) string {
	word, behind, _ := strings.Cut(line, " ")
	if word == "constant" {
		return line
	}
	if digits, isDistance := strings.CutPrefix(behind, "+"); isDistance {
		return fmt.Sprint(word, " ", at+toNumber(digits))
	}
	digits, isVariable := strings.CutPrefix(behind, "v")
	if !isVariable {
		return line
	}
	words := map[string][2]string{"push": {"local", "captured"}, "read": {"read-local", "read-box"}, "write": {"write-local", "write-box"}, "new-box": {"new-box", ""}}[word]
	if i := slices.Index(slots, toNumber(digits)); i >= 0 {
		return fmt.Sprint(words[0], " ", i)
	}
	return fmt.Sprint(words[1], " ", slices.Index(captured, toNumber(digits)))
}

func toNumber(digits string) int {
	n, err := strconv.Atoi(digits)
	if err != nil {
		panic(digits + " is no number")
	}
	return n
}

// lines has variables with their numbers, and jumps with their distance.
func (k *secondCompiler) lines(c *impl.Core, atTail bool) []string {
	var lines []string
	add := func(more ...string) { lines = append(lines, more...) }
	last := len(c.Kids) - 1
	switch c.Kind {
	case impl.CoreApply:
		for i := range c.Kids {
			add(k.lines(&c.Kids[i], false)...)
		}
		add(fmt.Sprint(map[bool]string{true: "tail-call ", false: "call "}[atTail], last))
		return lines
	case impl.CoreIf:
		consequent, alternative := k.lines(&c.Kids[1], atTail), k.lines(&c.Kids[2], atTail)
		if !atTail {
			consequent = append(consequent, fmt.Sprint("jump +", len(alternative)+1))
		}
		add(k.lines(&c.Kids[0], false)...)
		add(fmt.Sprint("jump-if-false +", len(consequent)+1))
		return slices.Concat(lines, consequent, alternative)
	case impl.CoreSequence, impl.CoreLocal:
		for _, n := range c.Params {
			add(fmt.Sprint("new-box v", n))
		}
		for i := range last {
			add(k.lines(&c.Kids[i], false)...)
			add("pop")
		}
		return append(lines, k.lines(&c.Kids[last], atTail)...)
	case impl.CoreQuote:
		add("constant " + describedText(c.Datum))
	case impl.CorePrimitive:
		add(fmt.Sprint("primitive ", c.Number))
	case impl.CoreVariable:
		add(fmt.Sprint(map[bool]string{true: "read v", false: "push v"}[slices.Contains(k.boxed, c.Number)], c.Number))
	case impl.CoreAssign:
		add(k.lines(&c.Kids[0], false)...)
		add(fmt.Sprint("write v", c.Number))
	default:
		for _, n := range capturedBy(*c) {
			add(fmt.Sprint("push v", n))
		}
		word := map[int]string{impl.CoreLambda: "closure ", impl.CoreReset: "reset ", impl.CoreShift: "shift "}[c.Kind]
		add(fmt.Sprint(word, slices.Index(k.owners, c)))
	}
	if atTail {
		add("return")
	}
	return lines
}

// describedCompile is CompileCore.
func describedCompile(c impl.Core) (impl.Image, bool) {
	if !isGoodCore(c, nil) {
		return impl.Image{}, false
	}
	return describedImage(describedCode(c, nil))
}

// describedCompiledUnit is CompileUnit.
func describedCompiledUnit(u impl.Unit) (impl.Object, bool) {
	uses := slices.DeleteFunc(describedFree(u.Body), func(n int) bool { return slices.Contains(u.Globals, n) })
	captured := slices.Concat(u.Globals, uses)
	if !fitsDescribed(unit(u.Name, nil, u.Body), captured) {
		return impl.Object{}, false
	}
	return describedObject(slices.Concat([]string{"object " + u.Name, wordLine("defines", u.Globals), wordLine("uses", uses)}, describedCode(u.Body, captured)))
}

var namingForm = regexp.MustCompile(`^(closure|reset|shift|enter) ([0-9]+)$`)

// describedLink is LinkObjects. It changes the lines of the objects.
func describedLink(list []impl.Object) (impl.Image, bool) {
	var names []string
	var slots []int
	var lines, entries []string
	codes := 0
	for i, o := range list {
		slots = append(slots, o.Defines...)
		if !isGoodObject(o) || i == 12 {
			return impl.Image{}, false
		}
		names = append(names, o.Name)
		for _, line := range imageLines(o.Image) {
			if parts := namingForm.FindStringSubmatch(line); parts != nil {
				line = fmt.Sprint(parts[1], " ", toNumber(parts[2])+codes)
			}
			lines = append(lines, line)
		}
		codes += len(o.Image.Codes)
		for _, n := range slices.Concat(o.Defines, o.Uses) {
			entries = append(entries, fmt.Sprint("local ", slices.Index(slots, n)))
		}
		entries = append(entries, fmt.Sprint("enter ", codes-1), "pop")
	}
	sorted := slices.Sorted(slices.Values(slots))
	if len(list) == 0 || !allDiffer(names) || len(slices.Compact(sorted)) < len(slots) {
		return impl.Image{}, false
	}
	lines = append(lines, fmt.Sprintf("code 0 %d 0", len(slots)))
	for i := range slots {
		lines = append(lines, fmt.Sprint("new-box ", i))
	}
	entries[len(entries)-1] = "return"
	// What is not defined has no slot, and "local -1" cannot be read.
	return describedImage(append(lines, entries...))
}

// checkCompiled checks CompileCore. There is no image if wanted is the zero value.
func checkCompiled(t *testing.T, c impl.Core, wanted impl.Image) {
	t.Helper()
	if got, ok := impl.CompileCore(c); !sameImage(got, wanted) || ok == isZeroImage(wanted) {
		t.Errorf("CompileCore(%s) = %s, %v, not %s", showTerm(c), showImage(got), ok, showImage(wanted))
	}
	if second, ok := describedCompile(c); !sameImage(second, wanted) || ok == isZeroImage(wanted) {
		t.Errorf("the second compiler makes of %s %s, %v, not %s", showTerm(c), showImage(second), ok, showImage(wanted))
	}
	if !isZeroImage(wanted) {
		checkFits(t, wanted, 0)
	}
}

// checkCompiledUnit checks CompileUnit. There is no object if wanted is the zero
// value.
func checkCompiledUnit(t *testing.T, u impl.Unit, wanted impl.Object) {
	t.Helper()
	if got, ok := impl.CompileUnit(u); !sameObject(got, wanted) || ok == isZeroObject(wanted) {
		t.Errorf("CompileUnit(%s) = %s, %v, not %s", showUnits([]impl.Unit{u}), showObject(got), ok, showObject(wanted))
	}
	if second, ok := describedCompiledUnit(u); !sameObject(second, wanted) || ok == isZeroObject(wanted) {
		t.Errorf("the second compiler makes of %s %s, %v, not %s", showUnits([]impl.Unit{u}), showObject(second), ok, showObject(wanted))
	}
	if !isZeroObject(wanted) {
		checkFits(t, wanted.Image, len(wanted.Defines)+len(wanted.Uses))
		checkObject(t, wanted, true)
	}
}

// checkLinked checks LinkObjects. There is no image if wanted is the zero value.
func checkLinked(t *testing.T, list []impl.Object, wanted impl.Image) {
	t.Helper()
	var names []string
	for _, o := range list {
		names = append(names, showObject(o))
	}
	if got, ok := impl.LinkObjects(list); !sameImage(got, wanted) || ok == isZeroImage(wanted) {
		t.Errorf("LinkObjects(%.3000s) = %s, %v, not %s", names, showImage(got), ok, showImage(wanted))
	}
	if second, ok := describedLink(list); !sameImage(second, wanted) || ok == isZeroImage(wanted) {
		t.Errorf("the description of LinkObjects has for %.3000s %s, %v, not %s", names, showImage(second), ok, showImage(wanted))
	}
	if !isZeroImage(wanted) {
		checkFits(t, wanted, 0)
	}
}

// checkFits checks P9 for an image that was compiled or linked: it is valid, it
// is read back from its text, and the stack of each code fits.
func checkFits(t *testing.T, m impl.Image, captures int) {
	t.Helper()
	checkImage(t, m, true)
	if !impl.IsImage(m, captures) {
		t.Errorf("%s has not %d captured variables", showImage(m), captures)
	}
	for k := range m.Codes {
		depths, ok := impl.StackDepths(m, k)
		if second, fine := depthsOnWays(m, m.Codes[k].Instrs); !ok || !fine || !sameInts(depths, second) {
			t.Errorf("StackDepths(%s, %d) = %v, %v, not %v", showImage(m), k, depths, ok, second)
		}
		if slices.Contains(depths, -1) {
			t.Errorf("an instruction of the code %d of %s is not reached", k, showImage(m))
		}
	}
}

// objectOf reads a name, the numbers of Defines and of Uses and an image, with
// semicolons between them.
func objectOf(t *testing.T, source string) impl.Object {
	t.Helper()
	fields := strings.SplitN(source, ";", 4)
	if len(fields) != 4 {
		t.Fatalf("%q is no object", source)
	}
	return impl.Object{Name: fields[0], Defines: numbersIn(t, fields[1]), Uses: numbersIn(t, fields[2]), Image: image(t, strings.TrimSpace(fields[3]))}
}

func objectsOf(t *testing.T, sources ...string) []impl.Object {
	t.Helper()
	var result []impl.Object
	for _, source := range sources {
		result = append(result, objectOf(t, source))
	}
	return result
}
