package tests

import (
	"slices"

	"loop.example/g03220/impl"
)

// A programMaker makes valid terms without globals that mostly do something:
// their parts have the types that are needed, but for a few of any type.
type programMaker struct{ termMaker }

// A programScope has the variables of numbers and of procedures that take a
// number and return one.
type programScope struct{ numbers, procedures []int }

func (s programScope) withNumbers(variables ...int) programScope {
	s.numbers = slices.Concat(s.numbers, variables)
	return s
}

func (s programScope) withProcedures(variables ...int) programScope {
	s.procedures = slices.Concat(s.procedures, variables)
	return s
}

// program returns a valid term without globals.
func (g *generator) program(depth int) impl.Core {
	m := programMaker{termMaker{generator: g, binders: g.below(9000)}}
	if g.below(12) == 0 {
		return m.any(depth, programScope{})
	}
	return within(1, m.number(depth, programScope{}))
}

// word returns a primitive.
func word(s string) impl.Core { return primitive(slices.Index(primitiveWords, s)) }

func applied(s string, args ...impl.Core) impl.Core {
	return called(append([]impl.Core{word(s)}, args...)...)
}

func (m *programMaker) pick(list []int) int { return list[m.below(len(list))] }

func (m *programMaker) number(depth int, s programScope) impl.Core {
	if depth <= 0 {
		if len(s.numbers) > 0 && m.below(3) > 0 {
			return useOf(m.pick(s.numbers))
		}
		return constant(number(m.below(7) - 2))
	}
	depth--
	switch n := m.below(26); {
	case n < 5:
		return applied(primitiveWords[m.below(3)], m.number(depth, s), m.number(depth, s))
	case n == 5:
		return node(impl.CoreIf, m.test(depth, s), m.number(depth, s), m.number(depth, s))
	case n < 8:
		return m.let(depth, s)
	case n < 10:
		return sequence(m.effect(depth, s), m.number(depth, s))
	case n < 13:
		return m.local(depth, s)
	case n < 16:
		return within(1, m.number(depth, s))
	case n < 19:
		variable := m.binder()
		return binder(impl.CoreShift, []int{variable}, m.number(depth, s.withProcedures(variable)))
	case n < 23 && len(s.procedures) > 0:
		return called(useOf(m.pick(s.procedures)), m.number(depth, s))
	case n < 24:
		return m.element(depth, s)
	case n == 24:
		return called(m.procedure(depth, s), m.number(depth, s))
	case n == 25 && m.below(3) == 0:
		return m.any(depth, s)
	}
	return m.number(0, s)
}

func (m *programMaker) let(depth int, s programScope) impl.Core {
	a, b := m.binder(), m.binder()
	if m.below(2) == 0 {
		return called(procedure([]int{a, b}, m.number(depth, s.withNumbers(a).withProcedures(b))), m.number(depth, s), m.procedure(depth, s))
	}
	return called(procedure([]int{a}, m.number(depth, s.withNumbers(a))), m.number(depth, s))
}

// local declares a number and a procedure, which may call itself.
func (m *programMaker) local(depth int, s programScope) impl.Core {
	a, f := m.binder(), m.binder()
	inner := s.withNumbers(a).withProcedures(f)
	body := m.procedure(depth, inner)
	if m.below(2) == 0 {
		body = m.loop(depth, inner.withProcedures(f, f, f))
	}
	kids := []impl.Core{assignment(a, m.number(depth, s)), assignment(f, body), called(useOf(f), m.number(depth, inner))}
	if m.below(12) == 0 {
		kids = kids[m.below(3):]
	}
	return binder(impl.CoreLocal, []int{a, f}, kids...)
}

// loop returns a procedure that calls one with smaller numbers down to 0.
func (m *programMaker) loop(depth int, s programScope) impl.Core {
	variable := m.binder()
	inner := s.withNumbers(variable)
	smaller := applied("-", useOf(variable), constant(number(1+m.below(2))))
	again := sequence(m.effect(depth-1, inner), applied("+", m.number(depth-2, inner), called(useOf(m.pick(s.procedures)), smaller)))
	return procedure([]int{variable}, node(impl.CoreIf, applied("<", useOf(variable), constant(number(1))), m.number(depth-2, inner), again))
}

// element takes a number from a list of numbers.
func (m *programMaker) element(depth int, s programScope) impl.Core {
	switch m.below(3) {
	case 0:
		return applied("car", applied("cons", m.number(depth, s), m.any(depth, s)))
	case 1:
		return applied("cdr", applied("cons", m.any(depth, s), m.number(depth, s)))
	}
	return applied("car", applied("cdr", constant(list(list(), number(m.below(9)), symbol("a")))))
}

func (m *programMaker) test(depth int, s programScope) impl.Core {
	switch m.below(5) {
	case 0:
		return applied([]string{"=", "<"}[m.below(2)], m.number(depth, s), m.number(depth, s))
	case 1:
		return applied([]string{"null?", "pair?", "number?", "not"}[m.below(4)], m.any(depth, s))
	case 2:
		same := m.any(depth, s)
		if len(describedBound(same)) > 0 {
			return applied("eq?", same, m.any(depth, s))
		}
		return applied("eq?", same, same)
	case 3:
		return constant(boolean(m.below(2)))
	}
	return m.number(depth, s)
}

func (m *programMaker) effect(depth int, s programScope) impl.Core {
	if len(s.numbers) > 0 && m.below(2) == 0 {
		return assignment(m.pick(s.numbers), m.number(depth, s))
	}
	if len(s.procedures) > 0 && m.below(3) == 0 {
		return assignment(m.pick(s.procedures), m.procedure(depth, s))
	}
	return applied("display", m.any(depth, s))
}

func (m *programMaker) procedure(depth int, s programScope) impl.Core {
	if len(s.procedures) > 0 && m.below(3) == 0 {
		return useOf(m.pick(s.procedures))
	}
	variable := m.binder()
	return procedure([]int{variable}, m.number(depth, s.withNumbers(variable)))
}

func (m *programMaker) any(depth int, s programScope) impl.Core {
	switch m.below(9) {
	case 0:
		return constant(m.datum(2))
	case 1:
		return m.test(depth-1, s)
	case 2:
		return m.procedure(depth-1, s)
	case 3:
		return applied("cons", m.number(depth-1, s), m.number(depth-1, s))
	case 4:
		return m.effect(depth-1, s)
	case 5:
		if m.below(4) == 0 {
			variable := m.binder()
			return binder(impl.CoreLocal, []int{variable}, m.make(1, slices.Concat(s.numbers, s.procedures, []int{variable})))
		}
	}
	return m.number(depth, s)
}
