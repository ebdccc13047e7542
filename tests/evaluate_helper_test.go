package tests

import (
	"fmt"
	"regexp"
	"slices"
	"strings"
	"testing"

	"loop.example/g03220/impl"
)

const leastNumber, greatestNumber = -999999999, 999999999

// What the chapters 2 and 9 say of values, written apart from the program.

var stringForm = regexp.MustCompile(`^[ !#-~]{0,20}$`)

func void() impl.Value { return impl.Value{} }

func empty() impl.Value { return impl.Value{Kind: impl.ValueEmpty} }

func truth(n int) impl.Value { return impl.Value{Kind: impl.ValueBoolean, Number: n} }

func num(n int) impl.Value { return impl.Value{Kind: impl.ValueNumber, Number: n} }

func name(s string) impl.Value { return impl.Value{Kind: impl.ValueSymbol, Text: s} }

func quoted(s string) impl.Value { return impl.Value{Kind: impl.ValueString, Text: s} }

func builtIn(n int) impl.Value { return impl.Value{Kind: impl.ValuePrimitive, Number: n} }

func pair(n int) impl.Value { return impl.Value{Kind: impl.ValuePair, Number: n} }

func lambdaValue(n int) impl.Value { return impl.Value{Kind: impl.ValueClosure, Number: n} }

func rest(n int) impl.Value { return impl.Value{Kind: impl.ValueContinuation, Number: n} }

func yes(b bool) impl.Value {
	if b {
		return truth(1)
	}
	return truth(0)
}

// isGoodValue is for pairs that are valid.
func isGoodValue(v impl.Value, pairs int) bool {
	between := func(least, most int) bool { return v.Text == "" && least <= v.Number && v.Number <= most }
	switch v.Kind {
	case impl.ValueVoid, impl.ValueEmpty:
		return between(0, 0)
	case impl.ValueBoolean:
		return between(0, 1)
	case impl.ValueNumber:
		return between(leastNumber, greatestNumber)
	case impl.ValueSymbol:
		return v.Number == 0 && matchesSymbol(v.Text)
	case impl.ValueString:
		return v.Number == 0 && stringForm.MatchString(v.Text)
	case impl.ValuePrimitive:
		return between(0, 13)
	case impl.ValuePair:
		return between(0, pairs-1)
	case impl.ValueClosure, impl.ValueContinuation:
		return between(0, 2000)
	}
	return false
}

func areGoodPairs(pairs []impl.Pair) bool {
	good := len(pairs) <= 2000
	for i, p := range pairs {
		good = good && isGoodValue(p.Head, i) && isGoodValue(p.Tail, i)
	}
	return good
}

func isGoodAmong(v impl.Value, pairs []impl.Pair) bool {
	return areGoodPairs(pairs) && isGoodValue(v, len(pairs))
}

// describedValue makes the value of the items behind the first one before that
// of the first one, and then their pair.
func describedValue(d impl.Datum, pairs []impl.Pair) (impl.Value, []impl.Pair) {
	switch d.Kind {
	case impl.DatumSymbol:
		return name(d.Text), pairs
	case impl.DatumNumber:
		return num(d.Number), pairs
	case impl.DatumBoolean:
		return truth(d.Number), pairs
	case impl.DatumString:
		return quoted(d.Text), pairs
	}
	if len(d.Items) == 0 {
		return empty(), pairs
	}
	tail, pairs := describedValue(list(d.Items[1:]...), pairs)
	head, pairs := describedValue(d.Items[0], pairs)
	return pair(len(pairs)), append(pairs, impl.Pair{Head: head, Tail: tail})
}

// describedValueText takes what is still to be written from a list, the last
// element first: a text, a value, or a value that stands behind others in
// parentheses.
func describedValueText(v impl.Value, pairs []impl.Pair) string {
	type behind struct{ impl.Value }
	todo := []any{v}
	var b strings.Builder
	for len(todo) > 0 && b.Len() < 120 {
		last := todo[len(todo)-1]
		todo = todo[:len(todo)-1]
		switch x := last.(type) {
		case string:
			b.WriteString(x)
		case impl.Value:
			if x.Kind != impl.ValuePair {
				b.WriteString(atomText(x))
				continue
			}
			p := pairs[x.Number]
			todo = append(todo, behind{p.Tail}, p.Head, "(")
		case behind:
			switch x.Kind {
			case impl.ValueEmpty:
				todo = append(todo, ")")
			case impl.ValuePair:
				p := pairs[x.Number]
				todo = append(todo, behind{p.Tail}, p.Head, " ")
			default:
				todo = append(todo, ")", x.Value, " . ")
			}
		}
	}
	return fmt.Sprintf("%.120s", b.String())
}

func atomText(v impl.Value) string {
	switch v.Kind {
	case impl.ValueVoid:
		return "#void"
	case impl.ValueEmpty:
		return "()"
	case impl.ValueBoolean:
		return []string{"#f", "#t"}[v.Number]
	case impl.ValueNumber:
		return fmt.Sprint(v.Number)
	case impl.ValueSymbol:
		return v.Text
	case impl.ValueString:
		return `"` + v.Text + `"`
	}
	return "#procedure"
}

// describedArity is for any number.
func describedArity(primitive int) int {
	if primitive < 0 || primitive >= len(primitiveWords) {
		return -1
	}
	if slices.Contains([]string{"+", "-", "*", "=", "<", "cons", "eq?"}, primitiveWords[primitive]) {
		return 2
	}
	return 1
}

func describedApply(primitive int, args []impl.Value, pairs []impl.Pair) (impl.Value, string) {
	arity := describedArity(primitive)
	if arity < 0 || primitiveWords[primitive] == "cons" || primitiveWords[primitive] == "display" || !areGoodPairs(pairs) {
		return void(), "not a pure primitive"
	}
	if len(args) != arity {
		return void(), "wrong number of arguments"
	}
	for _, v := range args {
		if !isGoodValue(v, len(pairs)) {
			return void(), "not a value"
		}
	}
	return describedPure(primitiveWords[primitive], args, pairs)
}

// describedPure is for as many values as the primitive takes.
func describedPure(word string, args []impl.Value, pairs []impl.Pair) (impl.Value, string) {
	wanted := map[string]int{"+": impl.ValueNumber, "-": impl.ValueNumber, "*": impl.ValueNumber, "=": impl.ValueNumber, "<": impl.ValueNumber, "car": impl.ValuePair, "cdr": impl.ValuePair}
	for _, v := range args {
		if kind, isOne := wanted[word]; isOne && v.Kind != kind {
			return void(), word + ": bad argument"
		}
	}
	v := pureResult(word, args, pairs)
	if v.Kind == impl.ValueNumber && (v.Number < leastNumber || v.Number > greatestNumber) {
		return void(), "number too large"
	}
	return v, ""
}

// pureResult is for good arguments.
func pureResult(word string, args []impl.Value, pairs []impl.Pair) impl.Value {
	first, last := args[0], args[len(args)-1]
	switch word {
	case "+":
		return num(first.Number + last.Number)
	case "-":
		return num(first.Number - last.Number)
	case "*":
		return num(first.Number * last.Number)
	case "=":
		return yes(first.Number == last.Number)
	case "<":
		return yes(first.Number < last.Number)
	case "car":
		return pairs[first.Number].Head
	case "cdr":
		return pairs[first.Number].Tail
	case "null?":
		return yes(first.Kind == impl.ValueEmpty)
	case "pair?":
		return yes(first.Kind == impl.ValuePair)
	case "number?":
		return yes(first.Kind == impl.ValueNumber)
	case "eq?":
		return yes(first.Kind == last.Kind && first.Number == last.Number && first.Text == last.Text)
	}
	return yes(first.Kind == impl.ValueBoolean && first.Number == 0)
}

func samePairs(a, b []impl.Pair) bool { return slices.Equal(a, b) }

func ended(status int, text string, ticks, made int, output ...string) impl.Outcome {
	return impl.Outcome{Status: status, Text: text, Output: output, Ticks: ticks, Made: made}
}

func done(text string, ticks, made int, output ...string) impl.Outcome {
	return ended(impl.StatusDone, text, ticks, made, output...)
}

func failed(text string, ticks, made int, output ...string) impl.Outcome {
	return ended(impl.StatusError, text, ticks, made, output...)
}

func outOfTicks(ticks, made int, output ...string) impl.Outcome {
	return ended(impl.StatusTicks, "", ticks, made, output...)
}

func full(ticks, made int, output ...string) impl.Outcome {
	return ended(impl.StatusFull, "", ticks, made, output...)
}

// sameOutcome is written apart from EqualOutcomes, which is under test.
func sameOutcome(a, b impl.Outcome) bool {
	return a.Status == b.Status && a.Text == b.Text && slices.Equal(a.Output, b.Output) && a.Ticks == b.Ticks && a.Made == b.Made
}

func isZeroOutcome(x impl.Outcome) bool { return sameOutcome(x, impl.Outcome{}) }

func showOutcome(x impl.Outcome) string {
	return fmt.Sprintf("[%d %q, output %.400q, %d ticks, %d made]", x.Status, x.Text, x.Output, x.Ticks, x.Made)
}

// showTerm writes a term that is valid.
func showTerm(c impl.Core) string {
	if !isGoodAlone(c) {
		return showCore(c)
	}
	return fmt.Sprintf("%.600s", describedText(describedDatum(c)))
}

// An evaluationCase has the text of a term, and its outcome with the greatest
// budget.
type evaluationCase struct {
	source string
	wanted impl.Outcome
}

func checkEvaluations(t *testing.T, cases []evaluationCase) {
	t.Helper()
	for _, s := range cases {
		checkOutcome(t, term(t, s.source), 5000, s.wanted)
	}
}

// checkOutcome checks the program and the second evaluator.
func checkOutcome(t *testing.T, c impl.Core, budget int, wanted impl.Outcome) {
	t.Helper()
	if got := impl.EvaluateCore(c, budget); !sameOutcome(got, wanted) {
		t.Errorf("EvaluateCore(%s, %d) = %s, not %s", showTerm(c), budget, showOutcome(got), showOutcome(wanted))
	}
	if second := describedOutcome(c, budget); !sameOutcome(second, wanted) {
		t.Errorf("the second evaluator has for %s with %d %s, not %s", showTerm(c), budget, showOutcome(second), showOutcome(wanted))
	}
}

// checkAgainstSecond checks EvaluateCore against the second evaluator, and
// returns what it returns.
func checkAgainstSecond(t *testing.T, c impl.Core, budget int) impl.Outcome {
	t.Helper()
	got := impl.EvaluateCore(c, budget)
	if wanted := describedOutcome(c, budget); !sameOutcome(got, wanted) {
		t.Errorf("EvaluateCore(%s, %d) = %s, not %s", showTerm(c), budget, showOutcome(got), showOutcome(wanted))
	}
	return got
}

// checkBudgets checks that a smaller budget stops the evaluation earlier, and
// does not change it otherwise.
func checkBudgets(t *testing.T, c impl.Core, budgets []int) {
	t.Helper()
	most := impl.EvaluateCore(c, 5000)
	for _, budget := range budgets {
		got := impl.EvaluateCore(c, budget)
		if budget >= most.Ticks && budget <= 5000 && (most.Status != impl.StatusTicks || budget == 5000) {
			if !sameOutcome(got, most) {
				t.Errorf("EvaluateCore(%s, %d) = %s, but %s with 5000", showTerm(c), budget, showOutcome(got), showOutcome(most))
			}
			continue
		}
		isPart := len(got.Output) <= len(most.Output) && slices.Equal(got.Output, most.Output[:len(got.Output)])
		if got.Status != impl.StatusTicks || got.Text != "" || got.Ticks != budget || !isPart || got.Made > most.Made {
			t.Errorf("EvaluateCore(%s, %d) = %s, which is no part of %s", showTerm(c), budget, showOutcome(got), showOutcome(most))
		}
	}
}
