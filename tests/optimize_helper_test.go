package tests

import (
	"slices"
	"testing"

	"loop.example/g03220/impl"
)

// What chapter 10 says, written apart from the program: a pass goes through a
// list of all nodes from the last one to the first one, and changes them in
// place.

func isAtomTerm(c impl.Core) bool { return c.Kind == impl.CoreQuote && len(c.Datum.Items) == 0 }

func describedSimple(c impl.Core, boxed []int) bool {
	switch c.Kind {
	case impl.CoreQuote:
		return isAtomTerm(c) && isGoodAlone(c)
	case impl.CorePrimitive:
		return isGoodAlone(c)
	case impl.CoreVariable:
		return isGoodAlone(c) && !slices.Contains(boxed, c.Number)
	}
	return false
}

func describedSubstitute(c impl.Core, variable int, simple impl.Core) impl.Core {
	result := copiedCore(c)
	isBound := simple.Kind == impl.CoreVariable && slices.Contains(describedBound(c), simple.Number)
	if !isGoodAlone(c) || !describedSimple(simple, nil) || isBound {
		return result
	}
	putIn(&result, variable, simple)
	return result
}

func putIn(c *impl.Core, variable int, simple impl.Core) {
	for _, at := range nodesOf(c) {
		if at.Kind == impl.CoreVariable && at.Number == variable {
			*at = copiedCore(simple)
		}
	}
}

func describedFold(c impl.Core) (impl.Core, bool) {
	if !isGoodAlone(c) || c.Kind != impl.CoreApply || c.Kids[0].Kind != impl.CorePrimitive {
		return impl.Core{}, false
	}
	var values []impl.Value
	for _, arg := range c.Kids[1:] {
		if !isAtomTerm(arg) {
			return impl.Core{}, false
		}
		v, _ := describedValue(arg.Datum, nil)
		values = append(values, v)
	}
	s := primitiveWords[c.Kids[0].Number]
	if s == "cons" || s == "display" || len(values) != describedArity(c.Kids[0].Number) {
		return impl.Core{}, false
	}
	v, problem := describedPure(s, values, nil)
	if problem != "" {
		return impl.Core{}, false
	}
	switch v.Kind {
	case impl.ValueEmpty:
		return constant(list()), true
	case impl.ValueBoolean:
		return constant(boolean(v.Number)), true
	case impl.ValueNumber:
		return constant(number(v.Number)), true
	}
	return impl.Core{}, false
}

// describedRule is SimplifyNode.
func describedRule(c impl.Core, boxed []int) (impl.Core, bool) {
	if !isGoodAlone(c) {
		return impl.Core{}, false
	}
	switch c.Kind {
	case impl.CoreApply:
		if result, ok := describedFold(c); ok {
			return result, true
		}
		return describedOpened(c, boxed)
	case impl.CoreIf:
		if test := c.Kids[0]; isAtomTerm(test) {
			isFalse := test.Datum.Kind == impl.DatumBoolean && test.Datum.Number == 0
			return copiedCore(c.Kids[1:][count(isFalse)]), true
		}
	case impl.CoreSequence:
		return describedShorter(c)
	}
	return impl.Core{}, false
}

// count returns 1 for true.
func count(b bool) int {
	if b {
		return 1
	}
	return 0
}

func describedOpened(c impl.Core, boxed []int) (impl.Core, bool) {
	head, args := c.Kids[0], c.Kids[1:]
	if head.Kind != impl.CoreLambda || len(head.Params) != len(args) {
		return impl.Core{}, false
	}
	result := copiedCore(head.Kids[0])
	for i, arg := range args {
		if slices.Contains(boxed, head.Params[i]) || !describedSimple(arg, boxed) {
			return impl.Core{}, false
		}
		putIn(&result, head.Params[i], arg)
	}
	return result, true
}

func describedShorter(c impl.Core) (impl.Core, bool) {
	var left []impl.Core
	for i, kid := range c.Kids {
		isLast := i+1 == len(c.Kids)
		if isLast || kid.Kind != impl.CoreQuote && kid.Kind != impl.CorePrimitive && kid.Kind != impl.CoreLambda {
			left = append(left, copiedCore(kid))
		}
	}
	switch len(left) {
	case len(c.Kids):
		return impl.Core{}, false
	case 1:
		return left[0], true
	}
	return node(impl.CoreSequence, left...), true
}

func describedPass(c impl.Core, boxed []int) (impl.Core, int) {
	result, before := copiedCore(c), copiedCore(c)
	nodes, same := nodesOf(&result), nodesOf(&before)
	applied := make([]int, len(nodes))
	for i := len(nodes) - 1; i >= 0; i-- {
		at := nodes[i]
		if at.Kind == impl.CoreSequence {
			at.Kids = inOneSequence(at.Kids)
			if len(at.Kids) > 60 {
				clear(applied[i : i+len(nodesOf(same[i]))])
				*at = *same[i]
				continue
			}
		}
		if simpler, ok := describedRule(*at, boxed); ok {
			*at, applied[i] = simpler, 1
		}
	}
	rules := 0
	for _, n := range applied {
		rules += n
	}
	return result, rules
}

func inOneSequence(kids []impl.Core) []impl.Core {
	var all []impl.Core
	for _, kid := range kids {
		if kid.Kind == impl.CoreSequence {
			all = append(all, kid.Kids...)
		} else {
			all = append(all, kid)
		}
	}
	return all
}

func describedOnce(c impl.Core, globals ...int) (impl.Core, int) {
	if !isGoodAlone(c) {
		return impl.Core{}, 0
	}
	return describedPass(c, slices.Concat(describedBoxed(c), describedFree(c), globals))
}

func describedOptimum(c impl.Core, globals ...int) (impl.Core, int) {
	all := 0
	for {
		simpler, rules := describedOnce(c, globals...)
		c, all = simpler, all+rules
		if rules == 0 {
			return c, all
		}
	}
}

func describedUnits(list []impl.Unit) ([]impl.Unit, int) {
	if !areGoodUnits(list) {
		return nil, 0
	}
	var result []impl.Unit
	all := 0
	for _, u := range list {
		body, rules := describedOptimum(u.Body, earlierGlobals(list)...)
		result, all = append(result, unit(u.Name, u.Globals, body)), all+rules
	}
	return result, all
}

func checkSimple(t *testing.T, c impl.Core, boxed []int, wanted bool) {
	t.Helper()
	if got := impl.IsSimple(c, boxed); got != wanted {
		t.Errorf("IsSimple(%s, %v) = %v", showTerm(c), boxed, got)
	}
	if second := describedSimple(c, boxed); second != wanted {
		t.Errorf("the description of IsSimple has for %s with %v %v", showTerm(c), boxed, second)
	}
}

func checkSubstitute(t *testing.T, c impl.Core, variable int, simple impl.Core, wanted impl.Core) {
	t.Helper()
	if got := impl.SubstituteCore(c, variable, simple); !sameCore(got, wanted) {
		t.Errorf("SubstituteCore(%s, %d, %s) = %s, not %s", showTerm(c), variable, showTerm(simple), showTerm(got), showTerm(wanted))
	}
	if second := describedSubstitute(c, variable, simple); !sameCore(second, wanted) {
		t.Errorf("the description of SubstituteCore has for %s, %d and %s %s, not %s", showTerm(c), variable, showTerm(simple), showTerm(second), showTerm(wanted))
	}
}

// checkFold checks that there is no result if wanted is the zero value.
func checkFold(t *testing.T, c impl.Core, wanted impl.Core) {
	t.Helper()
	if got, ok := impl.FoldApplication(c); !sameCore(got, wanted) || ok == isZeroCore(wanted) {
		t.Errorf("FoldApplication(%s) = %s, %v, not %s", showTerm(c), showTerm(got), ok, showTerm(wanted))
	}
	if second, ok := describedFold(c); !sameCore(second, wanted) || ok == isZeroCore(wanted) {
		t.Errorf("the description of FoldApplication has for %s %s, %v, not %s", showTerm(c), showTerm(second), ok, showTerm(wanted))
	}
}

// checkNode checks that no rule applies if wanted is the zero value.
func checkNode(t *testing.T, c impl.Core, boxed []int, wanted impl.Core) {
	t.Helper()
	if got, ok := impl.SimplifyNode(c, boxed); !sameCore(got, wanted) || ok == isZeroCore(wanted) {
		t.Errorf("SimplifyNode(%s, %v) = %s, %v, not %s", showTerm(c), boxed, showTerm(got), ok, showTerm(wanted))
	}
	if second, ok := describedRule(c, boxed); !sameCore(second, wanted) || ok == isZeroCore(wanted) {
		t.Errorf("the description of SimplifyNode has for %s with %v %s, %v, not %s", showTerm(c), boxed, showTerm(second), ok, showTerm(wanted))
	}
}

// checkPass checks SimplifyCore.
func checkPass(t *testing.T, c impl.Core, wanted impl.Core, rules int) {
	t.Helper()
	if got, n := impl.SimplifyCore(c); !sameCore(got, wanted) || n != rules {
		t.Errorf("SimplifyCore(%s) = %s, %d, not %s, %d", showTerm(c), showTerm(got), n, showTerm(wanted), rules)
	}
	if second, n := describedOnce(c); !sameCore(second, wanted) || n != rules {
		t.Errorf("the description of SimplifyCore has for %s %s, %d, not %s, %d", showTerm(c), showTerm(second), n, showTerm(wanted), rules)
	}
}

// checkOptimized checks OptimizeCore, and that the result stays as it is.
func checkOptimized(t *testing.T, c impl.Core, wanted impl.Core, rules int) {
	t.Helper()
	if got, n := impl.OptimizeCore(c); !sameCore(got, wanted) || n != rules {
		t.Errorf("OptimizeCore(%s) = %s, %d, not %s, %d", showTerm(c), showTerm(got), n, showTerm(wanted), rules)
	}
	if second, n := describedOptimum(c); !sameCore(second, wanted) || n != rules {
		t.Errorf("the description of OptimizeCore has for %s %s, %d, not %s, %d", showTerm(c), showTerm(second), n, showTerm(wanted), rules)
	}
	if isGoodAlone(c) {
		checkOptimum(t, wanted)
	}
}

// checkOptimum checks that an optimized term is not changed again.
func checkOptimum(t *testing.T, c impl.Core) {
	t.Helper()
	if got, n := impl.SimplifyCore(c); !sameCore(got, c) || n != 0 {
		t.Errorf("SimplifyCore of the optimized term %s = %s, %d", showTerm(c), showTerm(got), n)
	}
	if got, n := impl.OptimizeCore(c); !sameCore(got, c) || n != 0 {
		t.Errorf("OptimizeCore of the optimized term %s = %s, %d", showTerm(c), showTerm(got), n)
	}
}

// checkNoLarger checks that a term has become another valid one without new
// variables, nodes or levels.
func checkNoLarger(t *testing.T, before, after impl.Core) {
	t.Helper()
	isNew := func(old []int) func(n int) bool { return func(n int) bool { return !slices.Contains(old, n) } }
	if !isGoodAlone(after) || slices.ContainsFunc(describedFree(after), isNew(describedFree(before))) || slices.ContainsFunc(describedBound(after), isNew(describedBound(before))) {
		t.Errorf("%s, which was %s, is not valid or has new variables", showTerm(after), showTerm(before))
	}
	if impl.SizeOfCore(after) > impl.SizeOfCore(before) || impl.DepthOfCore(after) > impl.DepthOfCore(before) {
		t.Errorf("%s, which was %s, is larger", showTerm(after), showTerm(before))
	}
}

func hasEnded(x impl.Outcome) bool {
	return x.Status == impl.StatusDone || x.Status == impl.StatusError
}

// isNoWorse reports whether a program that ends has the same value, output and
// error after an optimization, with no more ticks and objects.
func isNoWorse(before, after impl.Outcome) bool {
	if !hasEnded(before) {
		return true
	}
	return after.Status == before.Status && after.Text == before.Text && slices.Equal(after.Output, before.Output) && after.Ticks <= before.Ticks && after.Made <= before.Made
}

func checkKeeps(t *testing.T, before, after impl.Core, budget int) impl.Outcome {
	t.Helper()
	x, y := impl.EvaluateCore(before, budget), impl.EvaluateCore(after, budget)
	if !isNoWorse(x, y) {
		t.Errorf("%s has with %d the outcome %s, and %s, which it was, %s", showTerm(after), budget, showOutcome(y), showTerm(before), showOutcome(x))
	}
	return x
}
