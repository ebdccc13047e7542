package tests

import (
	"fmt"
	"slices"
	"strings"
	"testing"

	"loop.example/g03220/impl"
)

var noOperations = []int{0, -1, 21, 22, -20, 276, leastInt, leastInt + 1, greatestInt, 1 << 32, 1<<32 + 1}

func TestOpNames(t *testing.T) {
	constants := []int{
		impl.OpConstant, impl.OpPrimitive, impl.OpLocal, impl.OpCaptured, impl.OpReadLocal, impl.OpReadBox, impl.OpWriteLocal, impl.OpWriteBox, impl.OpNewBox, impl.OpBoxParam,
		impl.OpClosure, impl.OpCall, impl.OpTailCall, impl.OpReturn, impl.OpJump, impl.OpJumpIfFalse, impl.OpPop, impl.OpReset, impl.OpShift, impl.OpEnter,
	}
	for i, op := range constants {
		if op != i+1 || impl.OpName(op) != operationWords[i] {
			t.Errorf("the operation %s is %d with the name %q", operationWords[i], op, impl.OpName(op))
		}
	}
	for _, op := range noOperations {
		if got := impl.OpName(op); got != "" {
			t.Errorf("OpName(%d) = %q", op, got)
		}
	}
	if impl.MaxCodes != 1500 || impl.MaxInstrs != 4000 || impl.MaxSlots != 500 {
		t.Error("a limit is another one")
	}
}

// checkInstr checks FormatInstr and that the text is read back. There is no text
// if wanted is empty.
func checkInstr(t *testing.T, x impl.Instr, wanted string) {
	t.Helper()
	got := impl.FormatInstr(x)
	if got != wanted {
		t.Errorf("FormatInstr of the operation %d with %d and %s = %.200q, not %.200q", x.Op, x.A, show(x.Datum), got, wanted)
	}
	if wanted != "" {
		checkInstrText(t, got, x)
	}
}

// checkInstrText checks ParseInstr. There is no instruction if wanted is the zero
// value.
func checkInstrText(t *testing.T, s string, wanted impl.Instr) {
	t.Helper()
	got, ok := impl.ParseInstr(s)
	if !sameInstr(got, wanted) || ok == isZeroInstr(wanted) {
		t.Errorf("ParseInstr(%.200q) = %d %d %s, %v", s, got.Op, got.A, show(got.Datum), ok)
	}
	if ok && impl.FormatInstr(got) != s {
		t.Errorf("%.200q is written again as %.200q", s, impl.FormatInstr(got))
	}
}

func TestInstrsOfEachOperation(t *testing.T) {
	for i, word := range operationWords {
		op := i + 1
		for _, a := range []int{0, 1, 2, 7, 10, 99, 100, 999, 1000, 3999, 4000, 4001, 4002, -1, -2, -4000, 99999, impl.MaxNumber, leastInt, leastInt + 1, greatestInt, 1 << 32} {
			wanted := ""
			switch {
			case word == "constant" && a == 0:
				wanted = "constant ()"
			case isWordAlone(word) && a == 0:
				wanted = word
			case word != "constant" && !isWordAlone(word) && 0 <= a && a <= 4000:
				wanted = fmt.Sprint(word, " ", a)
			}
			checkInstr(t, instr(op, a), wanted)
			checkInstr(t, impl.Instr{Op: op, A: a, Datum: impl.Datum{Items: []impl.Datum{}}}, wanted)
		}
		for _, d := range []impl.Datum{symbol("a"), symbol("return"), number(0), number(1), boolean(0), text(""), list(list()), list(symbol("a"))} {
			wanted := ""
			if word == "constant" {
				wanted = "constant " + impl.FormatDatum(d)
			}
			checkInstr(t, impl.Instr{Op: op, Datum: d}, wanted)
			checkInstr(t, impl.Instr{Op: op, A: 1, Datum: d}, "")
		}
		for _, d := range []impl.Datum{{Number: 1}, {Text: "a"}, {Kind: 5}, {Kind: -1}, symbol(""), symbol("A"), boolean(2), number(impl.MaxNumber + 1), text("\n"), list(symbol("a"), symbol("A")), nested(21), list(atoms(600)...), branchingDatum(200), nested(deepNesting)} {
			checkInstr(t, impl.Instr{Op: op, Datum: d}, "")
		}
	}
	for _, op := range noOperations {
		for _, a := range []int{0, 1, -1, 4000} {
			checkInstr(t, instr(op, a), "")
		}
		checkInstr(t, impl.Instr{Op: op, Datum: symbol("a")}, "")
	}
}

func TestConstants(t *testing.T) {
	strings600 := list(slices.Repeat([]impl.Datum{text(strings.Repeat("x", 20))}, 599)...)
	for _, d := range []impl.Datum{list(), symbol("a"), symbol("-"), symbol("..."), number(0), number(-impl.MaxNumber), number(impl.MaxNumber), boolean(0), boolean(1), text(""), text("a b"), text("  "), text(";'()#"), text("constant 1"), nested(20), list(atoms(599)...), strings600, list(symbol("quote"), symbol("a")), list(text("a"), list(), list(boolean(1), list(number(-5))))} {
		checkInstr(t, constantInstr(d), "constant "+impl.FormatDatum(d))
	}
	g := generator(307)
	for range 3000 {
		d := g.datum(3)
		checkInstr(t, constantInstr(d), "constant "+describedText(d))
	}
}

func TestTextsThatAreNoInstrs(t *testing.T) {
	bad := []string{"", " ", "0", "1", "local", "local ", "local  1", " local 1", "local 1 ", "local 1 2", "local\t1", "local 1\n", "\nlocal 1", "local a", "local -1", "local -0", "local +1", "local 01", "local 00", "local 1.0", "local 0x1", "local 1a", "local #t", "local \"1\"", "local (1)", "local 4001", "local 10000", "local 999999999", "local 1000000000", "local 99999999999999999999", "local 4294967296", "local -4000",
		"Local 1", "LOCAL 1", "locals 1", "loca 1", "local1", "local,1", "local;1", "return ", " return", "return 0", "return 1", "return return", "returns", "retur", "Return", "pop 0", "pop ", "pop pop", " pop", "pop\n", "constant", "constant ", "constant  1", " constant 1", "constant 1 ", "constant 1 2", "constant (1 2", "constant 1)", "constant )", "constant (", "constant 01", "constant -0", "constant 1000000000", "constant A", "constant 'a", "constant (quote  a)", "constant ( a)", "constant (a )", "constant ()()", "constant () ()", "constant (a)(b)", "constant \"a", "constant \"a\"b", "constant a;b", "constant a ;b", "constant ;", "constant #T", "constant #true", "constant \"\t\"", "constant\t1", "constant 1\n", "constant a\"b\"",
		"code 0 0 0", "code 1", "object a", "defines", "uses 1", "primitive", "primitive -1", "read local 1", "read-local", "jump", "jump 4001", "jump if-false 1", "jump-if-false", "jump-if-false 4001", "jump-if 1", "tail call 1", "tail-call", "call", "call 4001", "new-box", "newbox 1", "box-param", "param 1", "closure", "reset", "shift", "enter", "enter 0 0", "shift 1 a", "constant" + strings.Repeat(" ", 100000), strings.Repeat("a", 100000), "local " + strings.Repeat("1", 100000), "local \x00", "\xff 1", "local \xff", "é 1",
	}
	for _, word := range operationWords {
		bad = append(bad, word+" 4001", word+" -1", word+" 01", word+"  1", word+" 1 1", word+" ", " "+word+" 1", word+"- 1", strings.ToUpper(word)+" 1", word+" 1 ", word+"\t1")
	}
	for _, s := range bad {
		if s == "constant 4001" || s == "constant -1" {
			continue
		}
		checkInstrText(t, s, impl.Instr{})
		if second, ok := describedInstr(s); ok {
			t.Errorf("the description reads %.100q as %d %d", s, second.Op, second.A)
		}
	}
	checkInstrText(t, "constant "+describedText(nested(20)), constantInstr(nested(20)))
	checkInstrText(t, "constant "+describedText(nested(21)), impl.Instr{})
	checkInstrText(t, "constant "+describedText(list(atoms(599)...)), constantInstr(list(atoms(599)...)))
	checkInstrText(t, "constant "+describedText(list(atoms(600)...)), impl.Instr{})
	checkInstrText(t, "constant "+strings.Repeat("(", deepNesting), impl.Instr{})
}

func (g *generator) anyInstr() impl.Instr {
	x := instr(1+g.below(20), []int{0, 0, 1, 2, 4000, g.below(4001)}[g.below(6)])
	if x.Op == impl.OpConstant {
		x = constantInstr(g.datum(2))
	}
	if isWordAlone(wordOf(x.Op)) {
		x.A = 0
	}
	switch g.below(10) {
	case 0:
		x.Op = []int{-1, 0, 21, 1 + g.below(20), leastInt, greatestInt}[g.below(6)]
	case 1:
		x.A = []int{-1, 0, 4001, g.below(4001), leastInt, greatestInt}[g.below(6)]
	case 2:
		x.Datum = g.strange(1)
	case 3:
		x.Datum = g.datum(1)
	}
	return x
}

func TestAnyInstrs(t *testing.T) {
	g := generator(311)
	good, all := 0, 20000
	for range all {
		x := g.anyInstr()
		wanted := ""
		if isGoodInstr(x) {
			good++
			wanted = instrLine(x)
		}
		checkInstr(t, x, wanted)
		if t.Failed() {
			return
		}
	}
	if good < all/2 || good > all*9/10 {
		t.Errorf("%d of %d instructions are valid", good, all)
	}
}

// nearText changes a text a little.
func (g *generator) nearText(s string) string {
	at := g.below(len(s) + 1)
	words := strings.Split(s, " ")
	k := g.below(len(words))
	switch g.below(8) {
	case 0:
		return s[:at] + g.chars(" 0-1;'()\"a\n", 2) + s[at:]
	case 1:
		return s[:at] + s[min(len(s), at+1+g.below(2)):]
	case 2:
		words[k] = operationWords[g.below(20)]
	case 3:
		words[k] = []string{"0", "1", "4000", "4001", "00", "-1", "+1", "", "a", "()", "'a", "code"}[g.below(12)]
	case 4:
		words = slices.Delete(words, k, k+1)
	case 5:
		words = slices.Insert(words, k, words[g.below(len(words))])
	case 6:
		words = append(words, words[k])
	case 7:
		return s
	}
	return strings.Join(words, " ")
}

func TestTextsThatAreNearlyInstrs(t *testing.T) {
	g := generator(313)
	good, all := 0, 40000
	for range all {
		x := g.anyInstr()
		if !isGoodInstr(x) {
			continue
		}
		s := g.nearText(instrLine(x))
		wanted, ok := describedInstr(s)
		if ok {
			good++
		}
		checkInstrText(t, s, wanted)
		if t.Failed() {
			return
		}
	}
	if good < all/8 || good > all*3/4 {
		t.Errorf("%d of %d texts are instructions", good, all)
	}
}
