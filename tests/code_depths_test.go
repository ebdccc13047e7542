package tests

import (
	"fmt"
	"slices"
	"strings"
	"testing"

	"loop.example/g03220/impl"
)

// A depthsCase is the last code of an image, with its depths. There are none if
// these are empty.
type depthsCase struct{ source, wanted string }

func checkDepthsCases(t *testing.T, cases []depthsCase) {
	t.Helper()
	for _, s := range cases {
		m := image(t, s.source)
		checkDepths(t, m, len(m.Codes)-1, numbersIn(t, s.wanted))
	}
}

func TestDepthsOfEachOperation(t *testing.T) {
	checkDepthsCases(t, []depthsCase{
		{"0 0 0: constant 1; return", "0 1"}, {"0 0 0: constant (1 2 3); return", "0 1"}, {"0 0 0: primitive 13; return", "0 1"}, {"1 1 0: local 0; return", "0 1"}, {"0 0 1: captured 0; return", "0 1"}, {"1 1 0: read-local 0; return", "0 1"}, {"0 0 1: read-box 0; return", "0 1"},
		{"1 1 0: constant 1; write-local 0; return", "0 1 1"}, {"0 0 1: constant 1; write-box 0; return", "0 1 1"}, {"0 1 0: new-box 0; constant 1; return", "0 0 1"}, {"1 1 0: box-param 0; constant 1; return", "0 0 1"},
		{"0 0 0: constant 1; return / 0 0 0: closure 0; return", "0 1"}, {"0 0 0: constant 1; return / 0 0 0: reset 0; return", "0 1"}, {"1 1 0: constant 1; return / 0 0 0: shift 0; return", "0 1"}, {"0 0 0: constant 1; return / 0 0 0: enter 0; return", "0 1"},
		{"0 0 1: constant 1; return / 0 0 0: constant 1; closure 0; return", "0 1 1"}, {"0 0 2: constant 1; return / 0 0 0: constant 1; constant 2; reset 0; return", "0 1 2 1"}, {"1 1 2: constant 1; return / 0 0 0: constant 1; constant 2; shift 0; return", "0 1 2 1"}, {"0 0 3: constant 1; return / 0 0 0: constant 1; constant 2; constant 3; enter 0; return", "0 1 2 3 1"}, {"3 5 2: constant 1; return / 0 0 0: constant 1; constant 2; closure 0; return", "0 1 2 1"},
		{"0 0 1: constant 1; return / 0 0 0: constant 1; constant 2; closure 0; tail-call 1", "0 1 2 2"},
		{"0 0 0: constant 1; call 0; return", "0 1 1"}, {"0 0 0: constant 1; constant 2; call 1; return", "0 1 2 1"}, {"0 0 0: constant 1; constant 2; constant 3; call 1; call 1; return", "0 1 2 3 2 1"}, {"0 0 0:" + strings.Repeat(" constant 1;", 9) + "call 8; return", "0 1 2 3 4 5 6 7 8 9 1"},
		{"0 0 0: constant 1; tail-call 0", "0 1"}, {"0 0 0: constant 1; constant 2; tail-call 1", "0 1 2"}, {"0 0 0:" + strings.Repeat(" constant 1;", 9) + "tail-call 8", "0 1 2 3 4 5 6 7 8 9"}, {"0 0 0: constant 1; pop; constant 2; return", "0 1 0 1"}, {"0 0 0: constant 1; constant 2; pop; return", "0 1 2 1"},
		{"0 0 0: constant 1; jump 2; return", "0 1 1"}, {"0 0 0: jump 1; constant 1; return", "0 0 1"}, {"0 0 0: constant 1; jump-if-false 2; constant 2; return", "0 1 0 1"},
	})
}

func TestDepthsOfTooFewValues(t *testing.T) {
	for _, s := range []string{
		"0 0 0: return", "0 0 0: pop", "0 0 0: pop; constant 1; return", "1 1 0: write-local 0; return", "0 0 1: write-box 0; return", "0 0 0: jump-if-false 1; constant 1; return", "0 0 0: call 0; return", "0 0 0: tail-call 0", "0 0 0: constant 1; call 1; return", "0 0 0: constant 1; tail-call 1", "0 0 0: constant 1; constant 2; call 2; return", "0 0 0: constant 1; constant 2; tail-call 2",
		"0 0 0:" + strings.Repeat(" constant 1;", 8) + "call 8; return", "0 0 0:" + strings.Repeat(" constant 1;", 8) + "tail-call 8", "0 0 0: constant 1; pop; pop; constant 1; return", "0 0 0: constant 1; pop; return", "0 0 0: constant 1; jump-if-false 2; return",
		"0 0 1: constant 1; return / 0 0 0: closure 0; return", "0 0 1: constant 1; return / 0 0 0: reset 0; return", "1 1 1: constant 1; return / 0 0 0: shift 0; return", "0 0 1: constant 1; return / 0 0 0: enter 0; return", "0 0 3: constant 1; return / 0 0 0: constant 1; constant 2; closure 0; return", "0 0 2: constant 1; return / 0 0 0: constant 1; enter 0; return",
	} {
		checkDepthsCases(t, []depthsCase{{s, ""}})
	}
}

func TestDepthsOfValuesThatAreLeft(t *testing.T) {
	checkDepthsCases(t, []depthsCase{
		{"0 0 0: constant 1; constant 2; return", ""}, {"0 0 0: constant 1; constant 2; constant 3; return", ""}, {"0 0 0: constant 1; constant 2; tail-call 0", ""}, {"0 0 0: constant 1; constant 2; constant 3; tail-call 1", ""}, {"0 0 0:" + strings.Repeat(" constant 1;", 10) + "tail-call 8", ""}, {"0 0 0: constant 1; constant 2; call 0; return", ""},
		{"0 0 0: constant 1; jump-if-false 4; constant 1; return; constant 1; constant 2; return", ""}, {"0 0 0: constant 1; jump-if-false 5; constant 1; constant 2; return; constant 1; return", ""}, {"0 0 0: constant 1; jump-if-false 4; constant 1; return; constant 1; return", "0 1 0 1 0 1"}, {"0 0 0: constant 1; jump-if-false 4; constant 1; return; constant 1; constant 2; tail-call 1", "0 1 0 1 0 1 2"},
	})
}

func TestDepthsOfWays(t *testing.T) {
	checkDepthsCases(t, []depthsCase{
		// Instructions that are not reached, whatever they do.
		{"0 0 0: constant 1; return; constant 2; return", "0 1 -1 -1"}, {"0 0 0: constant 1; tail-call 0; pop; pop", "0 1 -1 -1"}, {"0 0 0: jump 2; return; constant 1; return", "0 -1 0 1"}, {"0 0 0: constant 1; jump 4; pop; jump 0; return", "0 1 -1 -1 1"}, {"0 0 0: constant 1; return; jump 0", "0 1 -1"}, {"0 0 0: constant 1; return; jump 2", "0 1 -1"}, {"0 0 0: constant 1; return; jump 4000", "0 1 -1"}, {"0 0 0: constant 1; return; constant 1", "0 1 -1"}, {"0 0 0: constant 1; return; tail-call 8", "0 1 -1"}, {"0 0 0: constant 1; return; constant 1; return; jump-if-false 0", "0 1 -1 -1 -1"},
		// An instruction that is not reached leads to none.
		{"0 0 0: jump 3; constant 1; jump 4; constant 1; return", "0 -1 -1 0 1"}, {"0 0 0: constant 1; jump 4; constant 2; constant 3; return", "0 1 -1 -1 1"},
		// Jumps to the next instruction, to themselves, backwards and out of the code.
		{"0 0 0: jump 1; jump 2; constant 1; return", "0 0 0 1"}, {"0 0 0: jump 0", ""}, {"0 0 0: constant 1; jump 1; return", ""}, {"0 0 0: constant 1; pop; jump 0", ""}, {"0 0 0: constant 1; jump 0; return", ""}, {"0 0 0: constant 1; jump 3; return", ""}, {"0 0 0: constant 1; jump 2", ""}, {"0 0 0: constant 1; jump 4000; return", ""}, {"0 0 0: jump 2; constant 1; pop; jump 1", ""},
		{"0 0 0: constant 1; jump-if-false 1; constant 2; return", ""}, {"0 0 0: constant 1; jump-if-false 0; constant 2; return", ""}, {"0 0 0: constant 1; jump-if-false 4; constant 2; return", ""}, {"0 0 0: constant 1; jump-if-false 2", ""}, {"0 0 0: constant 1; jump-if-false 4000; constant 1; return", ""}, {"0 0 0: constant 1; jump-if-false 3; constant 1; return", ""}, {"0 0 0: constant 1; jump-if-false 2; constant 1; return", "0 1 0 1"},
		// Two ways to an instruction.
		{"0 0 0: constant 1; jump-if-false 4; constant 2; jump 5; constant 3; return", "0 1 0 1 0 1"}, {"0 0 0: constant 1; jump-if-false 3; constant 2; return", ""}, {"0 0 0: constant 1; jump-if-false 4; constant 2; jump 4; constant 3; return", ""}, {"0 0 0: constant 1; jump-if-false 4; constant 2; pop; constant 3; return", "0 1 0 1 0 1"}, {"0 0 0: constant 1; jump-if-false 5; constant 2; constant 2; jump 6; constant 3; return", ""}, {"0 0 0: constant 1; jump-if-false 4; constant 2; jump 6; constant 3; constant 4; return", ""}, {"0 0 0: constant 1; jump-if-false 4; constant 2; jump 5; jump 5; return", ""},
		{"0 0 0: constant 1; constant 2; jump-if-false 4; pop; constant 3; return", ""}, {"0 0 0: constant 1; constant 2; jump-if-false 5; pop; constant 3; return", "0 1 2 1 0 1"}, {"0 0 0: constant 1; jump-if-false 4; constant 2; jump 9; constant 3; jump-if-false 8; constant 4; jump 9; constant 5; return", "0 1 0 1 0 1 0 1 0 1"}, {"0 0 0: constant 1; jump-if-false 4; constant 2; jump 10; constant 3; jump-if-false 9; constant 4; constant 4; jump 10; constant 5; return", ""},
		{"0 0 0: constant 1; jump-if-false 4; constant 2; jump-if-false 4; constant 3; return", "0 1 0 1 0 1"},
		// Codes that end without a return.
		{"0 0 0: constant 1", ""}, {"0 0 0: constant 1; pop", ""}, {"0 0 0: constant 1; call 0", ""}, {"0 1 0: new-box 0", ""}, {"0 0 0: constant 1; constant 2", ""}, {"0 0 0: jump 1", ""}, {"0 0 0: constant 1; jump-if-false 4; constant 2; return; constant 3", ""}, {"0 0 0: constant 1; jump-if-false 4; constant 2; jump 5; constant 3", ""},
	})
}

func TestDepthsOfManyValues(t *testing.T) {
	push := instrs(t, "constant 1")[0]
	for _, most := range []int{1, 100, 499, 500, 501, 502, 1500} {
		var wanted, none []int
		for i := range most {
			wanted = append(wanted, i)
		}
		for i := most; i > 1; i-- {
			wanted = append(wanted, i)
		}
		wanted = append(wanted, 1)
		down := slices.Concat(slices.Repeat(instrs(t, "pop"), most-1), instrs(t, "return"))
		up := slices.Repeat([]impl.Instr{push}, most)
		m := impl.Image{Codes: []impl.Code{{Instrs: slices.Concat(up, down)}}}
		if most > 500 {
			wanted = none
		}
		checkDepths(t, m, 0, wanted)
		// With an operation at the top that takes a value and leaves one.
		for _, x := range instrs(t, "write-local 0; write-box 0; call 0") {
			m := impl.Image{Codes: []impl.Code{{Params: 1, Slots: 1, Captures: 1, Instrs: slices.Concat(up, []impl.Instr{x}, down)}}}
			if most > 500 {
				checkDepths(t, m, 0, nil)
			} else {
				checkDepths(t, m, 0, slices.Concat(wanted[:most], []int{most}, wanted[most:]))
			}
		}
		// Each operation that leaves one more.
		for _, x := range instrs(t, "primitive 0; local 0; captured 0; read-local 0; read-box 0") {
			m := impl.Image{Codes: []impl.Code{{Params: 1, Slots: 1, Captures: 1, Instrs: slices.Concat(up[1:], []impl.Instr{x}, down)}}}
			checkDepths(t, m, 0, wanted)
		}
		for _, word := range []string{"closure", "reset", "enter"} {
			m := impl.Image{Codes: []impl.Code{image(t, "0 0 0: constant 1; return").Codes[0], {Instrs: slices.Concat(up[1:], []impl.Instr{instr(operation(word), 0)}, down)}}}
			checkDepths(t, m, 1, wanted)
		}
	}
	// As many captured variables as there may be.
	for _, captures := range []int{499, 500} {
		for _, before := range []int{captures - 1, captures, captures + 1} {
			m := impl.Image{Codes: []impl.Code{{Captures: captures, Instrs: instrs(t, "captured 498; return")}, {Instrs: slices.Concat(slices.Repeat([]impl.Instr{push}, before), instrs(t, "closure 0; return"))}}}
			var wanted []int
			if before == captures {
				wanted = append(from(0, before+1), 1)
			}
			checkDepths(t, m, 1, wanted)
		}
	}
}

func TestDepthsOfCodesOfAnImage(t *testing.T) {
	good, bad := "0 0 0: constant 1; return", "0 0 0: constant 1; primitive 14"
	noDepths := "0 0 0: constant 1"
	m := image(t, strings.Join([]string{good, good, "0 0 0: constant 1; constant 2; call 1; return", good}, " / "))
	for code, wanted := range [][]int{{0, 1}, {0, 1}, {0, 1, 2, 1}, {0, 1}} {
		checkDepths(t, m, code, wanted)
	}
	for _, code := range []int{-1, -2, 4, 5, 1500, leastInt, leastInt + 1, greatestInt, 1 << 32, 1<<32 + 1} {
		checkDepths(t, m, code, nil)
	}
	for _, empty := range []impl.Image{{}, {Codes: []impl.Code{}}, {Main: 3}} {
		for code := -1; code < 2; code++ {
			checkDepths(t, empty, code, nil)
		}
	}
	// Main is not looked at, and neither is how often a code is named.
	for _, main := range []int{-1, 0, 2, 4, greatestInt} {
		m.Main = main
		checkDepths(t, m, 2, []int{0, 1, 2, 1})
	}
	checkDepths(t, image(t, good+" / 0 0 0: closure 0; pop; closure 0; pop; reset 0; pop; enter 0; return"), 1, []int{0, 1, 0, 1, 0, 1, 0, 1})
	// Codes that are not valid, before and behind.
	for at := range 4 {
		for _, other := range []string{bad, "9 9 0: constant 1; return", "0 0 0:", "0 0 -1: constant 1; return", "0 501 0: constant 1; return", "0 0 0: closure 4; return", "0 0 0: constant 1; return; local 0"} {
			texts := []string{good, good, good, good}
			texts[at] = other
			m := image(t, strings.Join(texts, " / "))
			for code := range 4 {
				wanted := []int{0, 1}
				if code >= at {
					wanted = nil
				}
				checkDepths(t, m, code, wanted)
			}
		}
		// A code that is valid, but has no depths.
		texts := []string{good, good, good, good}
		texts[at] = noDepths
		m := image(t, strings.Join(texts, " / "))
		for code := range 4 {
			wanted := []int{0, 1}
			if code == at {
				wanted = nil
			}
			checkDepths(t, m, code, wanted)
		}
	}
	// More codes, and more instructions in all of them, than an image has.
	codes := slices.Repeat(image(t, good).Codes, 2000)
	many := slices.Concat(slices.Repeat(instrs(t, "constant 1; pop"), 1999), instrs(t, "constant 1; return"))
	for k := range 5 {
		codes[k].Instrs = many
	}
	checkDepths(t, impl.Image{Codes: codes}, 1999, []int{0, 1})
	codes[4].Instrs = append(many, instrs(t, "pop")...)
	checkDepths(t, impl.Image{Codes: codes}, 3, append(slices.Repeat([]int{0, 1}, 1999), 0, 1))
	checkDepths(t, impl.Image{Codes: codes}, 4, nil)
	checkDepths(t, impl.Image{Codes: codes}, 5, nil)
}

// ways returns a code of few instructions that often has depths.
func (g *generator) ways() impl.Image {
	m := impl.Image{Codes: []impl.Code{{Captures: g.below(3), Instrs: []impl.Instr{constantInstr(number(1)), instr(impl.OpReturn, 0)}}, {Params: 1, Slots: 1, Instrs: []impl.Instr{instr(impl.OpLocal, 0), instr(impl.OpReturn, 0)}}}}
	c := impl.Code{Params: 1, Slots: 2, Captures: 2}
	length := 1 + g.below(12)
	for i := range length {
		op := []int{1, 1, 1, 2, 3, 4, 5, 6, 7, 8, 9, 10, 11, 12, 12, 13, 14, 14, 15, 16, 16, 17, 18, 19, 20}[g.below(25)]
		x := instr(op, g.below(2))
		switch wordOf(op) {
		case "jump", "jump-if-false":
			x.A = i + 1 + g.below(4)
			if g.below(10) == 0 {
				x.A = g.below(length + 2)
			}
		case "new-box", "shift":
			x.A = 1
		case "box-param", "closure", "reset", "enter", "return", "pop", "constant":
			x.A = 0
		}
		c.Instrs = append(c.Instrs, x)
	}
	if g.below(2) == 0 {
		c.Instrs = append(c.Instrs, instr(impl.OpReturn, 0))
	}
	m.Codes = append(m.Codes, c)
	return m
}

func TestDepthsOfAnyWays(t *testing.T) {
	g := generator(317)
	good, unreached, jumps, all := 0, 0, 0, 120000
	for range all {
		m := g.ways()
		wanted, ok := describedDepths(m, 2)
		if got, fine := impl.StackDepths(m, 2); fine != ok || !sameInts(got, wanted) {
			t.Fatalf("StackDepths(%s, 2) = %v, %v, not %v", showImage(m), got, fine, wanted)
		}
		if ok {
			good++
			unreached += count(slices.Contains(wanted, -1))
			jumps += count(strings.Contains(fmt.Sprint(imageLines(m)), "jump"))
		}
	}
	if good < 4000 || unreached < 1000 || jumps < 1000 {
		t.Errorf("%d of %d codes have depths, %d of them with instructions that are not reached, and %d with jumps", good, all, unreached, jumps)
	}
}
