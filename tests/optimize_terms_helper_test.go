package tests

import (
	"slices"

	"loop.example/g03220/impl"
)

// An obscurer puts terms in the place of others that one rule makes the same
// again.
type obscurer struct {
	*generator
	next    int   // a variable that is not in use
	rules   int   // how many rules must be applied
	keeping []int // variables that are not simple
	chance  int
}

// obscured returns c with about one of chance nodes obscured. It is not valid if
// it has become too large or too deep.
func (g *generator) obscured(c impl.Core, chance int) impl.Core {
	result, _ := g.counted(c, chance)
	return result
}

// counted also returns how many rules are needed to get back to c, if no rule
// applies to it.
func (g *generator) counted(c impl.Core, chance int) (impl.Core, int) {
	o := obscurer{generator: g, chance: chance, keeping: slices.Concat(describedBoxed(c), describedFree(c))}
	for _, n := range slices.Concat(describedBound(c), describedFree(c)) {
		o.next = max(o.next, n+1)
	}
	result := o.term(c, false)
	return result, o.rules
}

func (o *obscurer) fresh() int {
	o.next++
	return o.next - 1
}

// junk returns a term that is left out. It assigns variables of its own only: it
// may be that another one must not be boxed before junk can be left out.
func (o *obscurer) junk() impl.Core {
	switch o.below(5) {
	case 0:
		return constant(o.datum(1))
	case 1:
		return primitive(o.below(14))
	case 2:
		n := o.fresh()
		return procedure([]int{n}, assignment(n, constant(symbol("junk"))))
	}
	return constant(o.atom())
}

func (o *obscurer) atom() impl.Datum {
	return []impl.Datum{list(), number(o.below(5)), boolean(1), symbol("a"), text("a b")}[o.below(5)]
}

func (o *obscurer) term(c impl.Core, inSequence bool) impl.Core {
	kids := make([]impl.Core, len(c.Kids))
	for i, kid := range c.Kids {
		kids[i] = o.term(kid, c.Kind == impl.CoreSequence)
	}
	c.Kids = kids
	if o.below(o.chance) > 0 || impl.SizeOfCore(c) > 200 || impl.DepthOfCore(c) > 60 {
		return c
	}
	return o.around(c, inSequence)
}

func (o *obscurer) around(c impl.Core, inSequence bool) impl.Core {
	o.rules++
	switch o.below(6) {
	case 0:
		return node(impl.CoreIf, constant(o.atom()), c, o.junk())
	case 1:
		return node(impl.CoreIf, falseTerm(), o.junk(), c)
	case 2:
		if c.Kind != impl.CoreSequence && !inSequence {
			return sequence(o.junk(), c)
		}
	case 3:
		if c.Kind == impl.CoreQuote && len(c.Datum.Items) == 0 {
			return o.folding(c.Datum)
		}
	case 4:
		return o.application(c)
	}
	return called(procedure(nil, c))
}

// folding returns an application that gives the constant d, if there is one.
func (o *obscurer) folding(d impl.Datum) impl.Core {
	n := o.below(100)
	switch {
	case d.Kind == impl.DatumNumber && d.Number < 0:
		return applied("+", constant(number(d.Number+n)), constant(number(-n)))
	case d.Kind == impl.DatumNumber && n < 50:
		return applied("-", constant(number(d.Number-n)), constant(number(-n)))
	case d.Kind == impl.DatumNumber:
		return applied("*", constant(number(-d.Number)), constant(number(-1)))
	case d.Kind == impl.DatumBoolean && n < 25:
		return applied("eq?", constant(symbol("a")), constant(symbol([]string{"b", "a"}[d.Number])))
	case d.Kind == impl.DatumBoolean && n < 50:
		return applied("<", constant(number(n)), constant(number(n+d.Number)))
	case d.Kind == impl.DatumBoolean && n < 75:
		return applied("not", constant([]impl.Datum{list(), boolean(0)}[d.Number]))
	case d.Kind == impl.DatumBoolean:
		return applied("number?", constant([]impl.Datum{text("1"), number(1)}[d.Number]))
	}
	return node(impl.CoreIf, constant(o.atom()), constant(d), o.junk())
}

// application returns an application of a procedure with the body c, in which
// some simple terms are now parameters.
func (o *obscurer) application(c impl.Core) impl.Core {
	c = copiedCore(c)
	var params []int
	var args []impl.Core
	for range o.below(4) {
		arg, param := o.simpleIn(c), o.fresh()
		for _, at := range nodesOf(&c) {
			if sameCore(*at, arg) && o.below(3) > 0 {
				*at = useOf(param)
			}
		}
		params, args = append(params, param), append(args, arg)
	}
	return called(append([]impl.Core{procedure(params, c)}, args...)...)
}

// simpleIn returns a simple term, mostly one that stands in c.
func (o *obscurer) simpleIn(c impl.Core) impl.Core {
	some := []impl.Core{constant(o.atom())}
	bound := describedBound(c)
	eachTerm(c, func(_ []impl.Core, c impl.Core) {
		if describedSimple(c, o.keeping) && (c.Kind != impl.CoreVariable || !slices.Contains(bound, c.Number)) {
			some = append(some, c)
		}
	})
	return some[o.below(len(some))]
}

// someVariables returns numbers of variables of c, and a few others.
func (g *generator) someVariables(c impl.Core) []int {
	var result []int
	for _, n := range slices.Concat(describedBound(c), describedFree(c), []int{0, 1, 5, -1, 99999}) {
		if g.below(4) == 0 {
			result = append(result, n)
		}
	}
	return result
}
