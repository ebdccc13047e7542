package tests

import (
	"fmt"
	"regexp"
	"slices"
	"strconv"
	"strings"
	"testing"

	"loop.example/g03220/impl"
)

// What chapter 11 says of instructions, images and objects, written apart from
// the program: the ways through a code are followed one after the other, and
// texts are read by their form.

var operationWords = strings.Fields("constant primitive local captured read-local read-box write-local write-box new-box box-param closure call tail-call return jump jump-if-false pop reset shift enter")

// wordOf returns the name of any operation.
func wordOf(op int) string {
	if op < 1 || op > len(operationWords) {
		return ""
	}
	return operationWords[op-1]
}

func operation(word string) int { return slices.Index(operationWords, word) + 1 }

func isWordAlone(word string) bool { return word == "return" || word == "pop" }

func isNaming(word string) bool {
	return word == "closure" || word == "reset" || word == "shift" || word == "enter"
}

func constantInstr(d impl.Datum) impl.Instr { return impl.Instr{Op: impl.OpConstant, Datum: d} }

func instr(op, a int) impl.Instr { return impl.Instr{Op: op, A: a} }

func sameInstr(a, b impl.Instr) bool {
	return a.Op == b.Op && a.A == b.A && sameDatum(a.Datum, b.Datum)
}

func sameCode(a, b impl.Code) bool {
	return a.Params == b.Params && a.Slots == b.Slots && a.Captures == b.Captures && slices.EqualFunc(a.Instrs, b.Instrs, sameInstr)
}

// sameImage is written apart from EqualImages, which is under test.
func sameImage(a, b impl.Image) bool {
	return a.Main == b.Main && slices.EqualFunc(a.Codes, b.Codes, sameCode)
}

func sameObject(a, b impl.Object) bool {
	return a.Name == b.Name && sameInts(a.Defines, b.Defines) && sameInts(a.Uses, b.Uses) && sameImage(a.Image, b.Image)
}

func isZeroInstr(x impl.Instr) bool { return sameInstr(x, impl.Instr{}) }

func isZeroImage(m impl.Image) bool { return sameImage(m, impl.Image{}) }

func isZeroObject(o impl.Object) bool { return sameObject(o, impl.Object{}) }

func isGoodConstant(d impl.Datum) bool { return fits(d, 20) && impl.CountNodes(d) <= 600 }

func isGoodInstr(x impl.Instr) bool {
	word := wordOf(x.Op)
	switch {
	case word == "":
		return false
	case word == "constant":
		return x.A == 0 && isGoodConstant(x.Datum)
	case isWordAlone(word):
		return x.A == 0 && sameDatum(x.Datum, impl.Datum{})
	}
	return 0 <= x.A && x.A <= 4000 && sameDatum(x.Datum, impl.Datum{})
}

// instrLine writes an instruction, also many that are not valid.
func instrLine(x impl.Instr) string {
	word := wordOf(x.Op)
	switch {
	case word == "constant":
		return word + " " + describedText(x.Datum)
	case isWordAlone(word):
		return word
	}
	return fmt.Sprintf("%s %d", word, x.A)
}

var indexForm = regexp.MustCompile(`^(0|[1-9][0-9]{0,3})$`)

// describedInstr reads the text of an instruction.
func describedInstr(s string) (impl.Instr, bool) {
	word, behind, hasMore := strings.Cut(s, " ")
	op := operation(word)
	switch {
	case op == 0:
		return impl.Instr{}, false
	case isWordAlone(word):
		return zeroUnless(!hasMore, instr(op, 0))
	case word == "constant":
		data, ok := readByOracle(behind)
		if !ok || len(data) != 1 {
			return impl.Instr{}, false
		}
		return zeroUnless(describedText(data[0]) == behind && isGoodConstant(data[0]), constantInstr(data[0]))
	}
	n, err := strconv.Atoi(behind)
	return zeroUnless(err == nil && indexForm.MatchString(behind) && n <= 4000, instr(op, n))
}

// zeroUnless returns x and true, or the zero value and false.
func zeroUnless[T any](ok bool, x T) (T, bool) {
	if !ok {
		return *new(T), false
	}
	return x, true
}

// boundsOf returns the least and the greatest A of an operation in the code k.
func boundsOf(m impl.Image, k int, word string) (int, int) {
	c := m.Codes[k]
	switch word {
	case "primitive":
		return 0, 13
	case "local", "read-local", "write-local":
		return 0, c.Slots - 1
	case "new-box":
		return c.Params, c.Slots - 1
	case "box-param":
		return 0, c.Params - 1
	case "captured", "read-box", "write-box":
		return 0, c.Captures - 1
	case "closure", "reset", "shift", "enter":
		return 0, k - 1
	case "call", "tail-call":
		return 0, 8
	}
	return 0, 4000
}

func isGoodCode(m impl.Image, k int) bool {
	c := m.Codes[k]
	good := 0 <= c.Params && c.Params <= 8 && c.Params <= c.Slots && c.Slots <= 500 && 0 <= c.Captures && c.Captures <= 500 && 1 <= len(c.Instrs) && len(c.Instrs) <= 4000
	for _, x := range c.Instrs {
		least, most := boundsOf(m, k, wordOf(x.Op))
		if !good || !isGoodInstr(x) || x.A < least || x.A > most {
			return false
		}
		switch wordOf(x.Op) {
		case "reset", "enter":
			good = m.Codes[x.A].Params == 0
		case "shift":
			good = m.Codes[x.A].Params == 1
		}
	}
	return good
}

// describedEffect returns how many values an instruction at an index takes and
// leaves, and where the code goes on.
func describedEffect(m impl.Image, x impl.Instr, at int) (int, int, []int) {
	behind := []int{at + 1}
	switch wordOf(x.Op) {
	case "constant", "primitive", "local", "captured", "read-local", "read-box":
		return 0, 1, behind
	case "write-local", "write-box":
		return 1, 1, behind
	case "closure", "reset", "shift", "enter":
		return m.Codes[x.A].Captures, 1, behind
	case "call":
		return x.A + 1, 1, behind
	case "tail-call":
		return x.A + 1, 0, nil
	case "return":
		return 1, 0, nil
	case "jump":
		return 0, 0, []int{x.A}
	case "jump-if-false":
		return 1, 0, []int{x.A, at + 1}
	case "pop":
		return 1, 0, behind
	}
	return 0, 0, behind
}

// describedDepths goes along all ways, those that are found later first.
func describedDepths(m impl.Image, code int) ([]int, bool) {
	if code < 0 || code >= len(m.Codes) {
		return nil, false
	}
	for k := range code + 1 {
		if !isGoodCode(m, k) {
			return nil, false
		}
	}
	return depthsOnWays(m, m.Codes[code].Instrs)
}

// depthsOnWays is for the instructions of a valid code.
func depthsOnWays(m impl.Image, instrs []impl.Instr) ([]int, bool) {
	depths := slices.Repeat([]int{-1}, len(instrs))
	type arrival struct{ from, at, depth int }
	todo := []arrival{{-1, 0, 0}}
	for len(todo) > 0 {
		v := todo[len(todo)-1]
		todo = todo[:len(todo)-1]
		if v.at <= v.from || v.at >= len(instrs) {
			return nil, false
		}
		if depths[v.at] == v.depth {
			continue
		}
		takes, leaves, next := describedEffect(m, instrs[v.at], v.at)
		after := v.depth - takes + leaves
		if depths[v.at] != -1 || v.depth < takes || after > 500 || next == nil && after > 0 {
			return nil, false
		}
		depths[v.at] = v.depth
		for _, at := range next {
			todo = append(todo, arrival{v.at, at, after})
		}
	}
	return depths, true
}

// isGoodImage describes a valid image of any number of instructions.
func isGoodImage(m impl.Image, captures int) bool {
	count := len(m.Codes)
	if count == 0 || count > 1500 || m.Main != count-1 {
		return false
	}
	all := 0
	times := map[int]int{}
	for k, c := range m.Codes {
		if all += len(c.Instrs); all > 16000 || !isGoodCode(m, k) {
			return false
		}
		if _, ok := depthsOnWays(m, c.Instrs); !ok {
			return false
		}
		for _, x := range c.Instrs {
			if isNaming(wordOf(x.Op)) {
				times[x.A]++
			}
		}
	}
	for k := range count - 1 {
		if times[k] != 1 {
			return false
		}
	}
	return m.Codes[count-1].Params == 0 && m.Codes[count-1].Captures == captures
}

// isGoodAtLast is for images of any number of captured variables.
func isGoodAtLast(m impl.Image) bool {
	return len(m.Codes) > 0 && isGoodImage(m, m.Codes[len(m.Codes)-1].Captures)
}

// imageLines writes any image, but for its Main.
func imageLines(m impl.Image) []string {
	var lines []string
	for _, c := range m.Codes {
		lines = append(lines, fmt.Sprintf("code %d %d %d", c.Params, c.Slots, c.Captures))
		for _, x := range c.Instrs {
			lines = append(lines, instrLine(x))
		}
	}
	return lines
}

var headForm = regexp.MustCompile(`^code (0|-?[1-9][0-9]{0,8}) (0|-?[1-9][0-9]{0,8}) (0|-?[1-9][0-9]{0,8})$`)

// readImage reads lines, also those of an image that is not valid.
func readImage(lines []string) (impl.Image, bool) {
	var m impl.Image
	for _, line := range lines {
		if head := headForm.FindStringSubmatch(line); head != nil {
			var n [3]int
			for i := range n {
				n[i], _ = strconv.Atoi(head[i+1])
			}
			m.Codes = append(m.Codes, impl.Code{Params: n[0], Slots: n[1], Captures: n[2]})
			continue
		}
		x, ok := describedInstr(line)
		if !ok || len(m.Codes) == 0 {
			return impl.Image{}, false
		}
		c := &m.Codes[len(m.Codes)-1]
		c.Instrs = append(c.Instrs, x)
	}
	m.Main = len(m.Codes) - 1
	return m, true
}

// describedImage reads the lines of a valid image.
func describedImage(lines []string) (impl.Image, bool) {
	m, ok := readImage(lines)
	return zeroUnless(ok && isGoodAtLast(m), m)
}

func isGoodObject(o impl.Object) bool {
	numbers := slices.Concat(o.Defines, o.Uses)
	captures := len(numbers)
	slices.Sort(numbers)
	for i, n := range numbers {
		if n < 0 || n > 99999 || i > 0 && numbers[i-1] == n {
			return false
		}
	}
	return isGoodName(o.Name) && isGoodImage(o.Image, captures)
}

// wordLine writes a word and numbers.
func wordLine(word string, numbers []int) string {
	words := []string{word}
	for _, n := range numbers {
		words = append(words, fmt.Sprint(n))
	}
	return strings.Join(words, " ")
}

// objectLines writes any object, but for the Main of its image.
func objectLines(o impl.Object) []string {
	return append([]string{"object " + o.Name, wordLine("defines", o.Defines), wordLine("uses", o.Uses)}, imageLines(o.Image)...)
}

var (
	nameLineForm    = regexp.MustCompile(`^object ([^ ]+)$`)
	definesLineForm = regexp.MustCompile(`^defines(( (0|[1-9][0-9]*))*)$`)
	usesLineForm    = regexp.MustCompile(`^uses(( (0|[1-9][0-9]*))*)$`)
)

// describedObject reads the lines of a valid object.
func describedObject(lines []string) (impl.Object, bool) {
	if len(lines) < 3 {
		return impl.Object{}, false
	}
	name, defines, uses := nameLineForm.FindStringSubmatch(lines[0]), definesLineForm.FindStringSubmatch(lines[1]), usesLineForm.FindStringSubmatch(lines[2])
	m, ok := describedImage(lines[3:])
	if !ok || name == nil || defines == nil || uses == nil {
		return impl.Object{}, false
	}
	o := impl.Object{Name: name[1], Defines: numbersBehind(defines[1]), Uses: numbersBehind(uses[1]), Image: m}
	return zeroUnless(isGoodObject(o), o)
}

// numbersBehind returns -1, which is no variable, for a number that is too large.
func numbersBehind(s string) []int {
	var numbers []int
	for _, digits := range strings.Fields(s) {
		n, err := strconv.Atoi(digits)
		if err != nil {
			n = -1
		}
		numbers = append(numbers, n)
	}
	return numbers
}

// image reads codes, with " / " between them: Params, Slots and Captures, a
// colon, and instructions, with "; " between them. An A may be any number. Main
// is the last code.
func image(t *testing.T, source string) impl.Image {
	t.Helper()
	var m impl.Image
	for _, text := range strings.Split(source, " / ") {
		head, rest, ok := strings.Cut(text, ":")
		n := numbersIn(t, head)
		if !ok || len(n) != 3 {
			t.Fatalf("%q is no code", text)
		}
		m.Codes = append(m.Codes, impl.Code{Params: n[0], Slots: n[1], Captures: n[2], Instrs: instrs(t, rest)})
	}
	m.Main = len(m.Codes) - 1
	return m
}

// instrs reads instructions, with "; " between them.
func instrs(t *testing.T, source string) []impl.Instr {
	t.Helper()
	var result []impl.Instr
	for _, text := range strings.Split(source, ";") {
		word, rest, _ := strings.Cut(strings.TrimSpace(text), " ")
		switch {
		case word == "":
		case operation(word) == 0:
			t.Fatalf("%q is no instruction", text)
		case word == "constant":
			result = append(result, constantInstr(mustParseOne(t, rest)))
		default:
			result = append(result, instr(operation(word), append(numbersIn(t, rest), 0)[0]))
		}
	}
	return result
}

// showLines writes the first ones of many lines.
func showLines(lines []string) string {
	return fmt.Sprintf("%.1500q (%d lines)", lines[:min(len(lines), 60)], len(lines))
}

func showImage(m impl.Image) string {
	return fmt.Sprintf("[main %d, %s]", m.Main, showLines(imageLines(m)))
}

func showObject(o impl.Object) string {
	return fmt.Sprintf("[main %d, %s]", o.Image.Main, showLines(objectLines(o)))
}

// checkImage checks IsImage, FormatImage and ParseImage of any image.
func checkImage(t *testing.T, m impl.Image, wanted bool) {
	t.Helper()
	captures := 0
	if len(m.Codes) > 0 {
		captures = m.Codes[len(m.Codes)-1].Captures
	}
	for _, n := range []int{captures, captures - 1, captures + 1, -1, 0, leastInt, greatestInt} {
		good := wanted && n == captures
		if got := impl.IsImage(m, n); got != good {
			t.Errorf("IsImage(%s, %d) = %v", showImage(m), n, got)
		}
		if got := isGoodImage(m, n); got != good {
			t.Errorf("the description of IsImage has for %s and %d %v", showImage(m), n, got)
		}
	}
	lines := impl.FormatImage(m)
	if wanted && !slices.Equal(lines, imageLines(m)) || !wanted && len(lines) > 0 {
		t.Errorf("FormatImage(%s) = %s", showImage(m), showLines(lines))
	}
	if wanted {
		checkLines(t, lines, m)
	}
}

// checkLines checks ParseImage. There is no image if wanted is the zero value.
func checkLines(t *testing.T, lines []string, wanted impl.Image) {
	t.Helper()
	if got, ok := impl.ParseImage(lines); !sameImage(got, wanted) || ok == isZeroImage(wanted) {
		t.Errorf("ParseImage(%s) = %s, %v, not %s", showLines(lines), showImage(got), ok, showImage(wanted))
	}
	if second, ok := describedImage(lines); !sameImage(second, wanted) || ok == isZeroImage(wanted) {
		t.Errorf("the description of ParseImage has for %s %s, %v, not %s", showLines(lines), showImage(second), ok, showImage(wanted))
	}
}

// checkDepths checks StackDepths. There are none if wanted is nil.
func checkDepths(t *testing.T, m impl.Image, code int, wanted []int) {
	t.Helper()
	if got, ok := impl.StackDepths(m, code); !sameInts(got, wanted) || ok != (wanted != nil) {
		t.Errorf("StackDepths(%s, %d) = %v, %v, not %v", showImage(m), code, got, ok, wanted)
	}
	if second, ok := describedDepths(m, code); !sameInts(second, wanted) || ok != (wanted != nil) {
		t.Errorf("the description of StackDepths has for %s and %d %v, %v, not %v", showImage(m), code, second, ok, wanted)
	}
}

// checkObject checks IsObject, FormatObject and ParseObject of any object.
func checkObject(t *testing.T, o impl.Object, wanted bool) {
	t.Helper()
	if got := impl.IsObject(o); got != wanted {
		t.Errorf("IsObject(%s) = %v", showObject(o), got)
	}
	if second := isGoodObject(o); second != wanted {
		t.Errorf("the description of IsObject has for %s %v", showObject(o), second)
	}
	lines := impl.FormatObject(o)
	if wanted && !slices.Equal(lines, objectLines(o)) || !wanted && len(lines) > 0 {
		t.Errorf("FormatObject(%s) = %s", showObject(o), showLines(lines))
	}
	if wanted {
		checkObjectLines(t, lines, o)
	}
}

// checkObjectLines checks ParseObject. There is no object if wanted is the zero
// value.
func checkObjectLines(t *testing.T, lines []string, wanted impl.Object) {
	t.Helper()
	if got, ok := impl.ParseObject(lines); !sameObject(got, wanted) || ok == isZeroObject(wanted) {
		t.Errorf("ParseObject(%s) = %s, %v, not %s", showLines(lines), showObject(got), ok, showObject(wanted))
	}
	if second, ok := describedObject(lines); !sameObject(second, wanted) || ok == isZeroObject(wanted) {
		t.Errorf("the description of ParseObject has for %s %s, %v, not %s", showLines(lines), showObject(second), ok, showObject(wanted))
	}
}
