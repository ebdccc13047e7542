package tests

import (
	"slices"

	"loop.example/g03220/impl"
)

// The second evaluator rewrites a tree, which is the term with all that has
// come of it so far: it looks from the root for the part that is next, and
// replaces it. A continuation is the part of the tree within a reset, with a
// hole.

// A part has the kind of a term, partValue or partHole. A variable with a place
// has the number -1 for the first place, -2 for the second one, and so on.
type part struct {
	kind   int
	number int
	params []int
	datum  impl.Datum
	value  impl.Value
	kids   []*part
}

const (
	partValue = 101
	partHole  = 102
)

func partOf(c impl.Core) *part {
	result := &part{kind: c.Kind, number: c.Number, params: c.Params, datum: c.Datum}
	for _, kid := range c.Kids {
		result.kids = append(result.kids, partOf(kid))
	}
	return result
}

func valuePart(v impl.Value) *part { return &part{kind: partValue, value: v} }

func (x *part) isValue() bool { return x.kind == partValue }

// withKid returns x with another kid.
func (x *part) withKid(i int, kid *part) *part {
	result := *x
	result.kids = slices.Clone(x.kids)
	result.kids[i] = kid
	return &result
}

// withPlaces returns x with the places of variables in their place.
func (x *part) withPlaces(places map[int]int) *part {
	result := *x
	if place, ok := places[x.number]; ok && (x.kind == impl.CoreVariable || x.kind == impl.CoreAssign) {
		result.number = place
	}
	result.kids = nil
	for _, kid := range x.kids {
		result.kids = append(result.kids, kid.withPlaces(places))
	}
	return &result
}

// A crumb is a node on the way to a part of a tree, and which of its kids is
// next on this way.
type crumb struct {
	at  *part
	kid int
}

// wayTo returns the way to the part of x that is next, and this part.
func wayTo(x *part) ([]crumb, *part) {
	var way []crumb
	for {
		kid := x.nextKid()
		if kid < 0 {
			return way, x
		}
		way = append(way, crumb{x, kid})
		x = x.kids[kid]
	}
}

// nextKid returns the kid that must become a value before x is replaced, or -1.
func (x *part) nextKid() int {
	count := 0
	switch x.kind {
	case impl.CoreAssign, impl.CoreIf, impl.CoreSequence, impl.CoreReset:
		count = 1
	case impl.CoreApply:
		count = len(x.kids)
	}
	return slices.IndexFunc(x.kids[:count], func(kid *part) bool { return !kid.isValue() })
}

// fill puts x at the end of a way.
func fill(way []crumb, x *part) *part {
	for _, c := range slices.Backward(way) {
		x = c.at.withKid(c.kid, x)
	}
	return x
}

// A rewriting is all that the second evaluator knows.
type rewriting struct {
	impl.Outcome
	budget int
	places []*impl.Value // nil if it is not assigned
	pairs  []impl.Pair
	made   []*part // lambdas, and continuations with a hole
}

// describedOutcome is the outcome by the second evaluator.
func describedOutcome(c impl.Core, budget int) impl.Outcome {
	if budget < 0 || budget > 5000 || !isGoodCore(c, nil) {
		return impl.Outcome{}
	}
	w := &rewriting{budget: budget}
	root := partOf(c)
	for w.Status == impl.StatusRunning && !root.isValue() {
		root = w.rewrite(root)
	}
	if w.Status == impl.StatusRunning {
		w.end(impl.StatusDone, describedValueText(root.value, w.pairs))
	}
	return w.Outcome
}

// end is what all stops with. The part that is returned is not looked at.
func (w *rewriting) end(status int, text string) *part {
	w.Status, w.Text = status, text
	return valuePart(void())
}

func (w *rewriting) error(text string) *part { return w.end(impl.StatusError, text) }

// hasRoom counts objects, unless there would be too many.
func (w *rewriting) hasRoom(objects int) bool {
	if w.Made+objects > 2000 {
		w.end(impl.StatusFull, "")
		return false
	}
	w.Made += objects
	return true
}

func (w *rewriting) newProcedure(kind int, x *part) *part {
	if !w.hasRoom(1) {
		return valuePart(void())
	}
	w.made = append(w.made, x)
	return valuePart(impl.Value{Kind: kind, Number: len(w.made) - 1})
}

// opened returns the kids of a binder with new places, the first ones with
// values.
func (w *rewriting) opened(x *part, values ...impl.Value) []*part {
	places := map[int]int{}
	for i, n := range x.params {
		w.places = append(w.places, nil)
		places[n] = -len(w.places)
		if i < len(values) {
			w.places[len(w.places)-1] = &values[i]
		}
	}
	return x.withPlaces(places).kids
}

// rewrite makes one step.
func (w *rewriting) rewrite(root *part) *part {
	way, x := wayTo(root)
	if x.kind == impl.CoreShift {
		return w.shift(way, x)
	}
	return fill(way, w.replacement(x))
}

func (w *rewriting) shift(way []crumb, x *part) *part {
	for i, c := range slices.Backward(way) {
		if c.at.kind != impl.CoreReset {
			continue
		}
		k := w.newProcedure(impl.ValueContinuation, fill(way[i+1:], &part{kind: partHole}))
		return fill(way[:i+1], w.opened(x, k.value)[0])
	}
	return w.error("shift outside of reset")
}

// replacement returns what x becomes in its place.
func (w *rewriting) replacement(x *part) *part {
	switch x.kind {
	case impl.CoreQuote:
		if !w.hasRoom(impl.CountNodes(x.datum) - 1) {
			return valuePart(void())
		}
		v, pairs := describedValue(x.datum, w.pairs)
		w.pairs = pairs
		return valuePart(v)
	case impl.CoreVariable:
		if v := w.places[-1-x.number]; v != nil {
			return valuePart(*v)
		}
		return w.error("variable is not assigned")
	case impl.CorePrimitive:
		return valuePart(builtIn(x.number))
	case impl.CoreAssign:
		w.places[-1-x.number] = &x.kids[0].value
		return valuePart(void())
	case impl.CoreLambda:
		return w.newProcedure(impl.ValueClosure, x)
	case impl.CoreIf:
		if x.kids[0].value == truth(0) {
			return x.kids[2]
		}
		return x.kids[1]
	case impl.CoreSequence:
		return inSequence(x.kids[1:])
	case impl.CoreLocal:
		return inSequence(w.opened(x))
	case impl.CoreReset:
		return x.kids[0]
	}
	return w.application(x.kids)
}

func inSequence(kids []*part) *part {
	if len(kids) == 1 {
		return kids[0]
	}
	return &part{kind: impl.CoreSequence, kids: kids}
}

func (w *rewriting) application(kids []*part) *part {
	if w.Ticks >= w.budget {
		return w.end(impl.StatusTicks, "")
	}
	w.Ticks++
	var values []impl.Value
	for _, kid := range kids {
		values = append(values, kid.value)
	}
	f, args := values[0], values[1:]
	wanted := 1
	switch f.Kind {
	case impl.ValuePrimitive:
		wanted = describedArity(f.Number)
	case impl.ValueClosure:
		wanted = len(w.made[f.Number].params)
	case impl.ValueContinuation:
	default:
		return w.error("not a procedure")
	}
	switch {
	case len(args) != wanted:
		return w.error("wrong number of arguments")
	case f.Kind == impl.ValuePrimitive:
		return w.primitive(primitiveWords[f.Number], args)
	case f.Kind == impl.ValueClosure:
		return w.opened(w.made[f.Number], args...)[0]
	}
	return &part{kind: impl.CoreReset, kids: []*part{w.made[f.Number].withHole(args[0])}}
}

// withHole returns x with a value in its hole, to which all kids lead that are
// no values yet, where x waits for them.
func (x *part) withHole(v impl.Value) *part {
	way, hole := wayTo(x)
	if hole.kind != partHole {
		panic("the hole is not what is next")
	}
	return fill(way, valuePart(v))
}

func (w *rewriting) primitive(word string, args []impl.Value) *part {
	switch word {
	case "cons":
		if w.hasRoom(1) {
			w.pairs = append(w.pairs, impl.Pair{Head: args[0], Tail: args[1]})
		}
		return valuePart(pair(len(w.pairs) - 1))
	case "display":
		if len(w.Output) >= 60 {
			return w.end(impl.StatusFull, "")
		}
		w.Output = append(w.Output, describedValueText(args[0], w.pairs))
		return valuePart(void())
	}
	v, problem := describedPure(word, args, w.pairs)
	if problem != "" {
		return w.error(problem)
	}
	return valuePart(v)
}
