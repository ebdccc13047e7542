package tests

import (
	"fmt"
	"strconv"
	"strings"

	"loop.example/g03220/impl"
)

var formWords = strings.Fields("quote lambda if set! begin reset shift define define-syntax let-syntax syntax-rules local")
var primitiveWords = strings.Fields("+ - * = < cons car cdr null? pair? number? eq? not display")

// kindsOfBindings has the word and the last number of each kind, written apart
// from the program.
var kindsOfBindings = []struct {
	kind, last int
	word       string
}{{impl.BindingForm, 11, "form"}, {impl.BindingPrimitive, 13, "primitive"}, {impl.BindingVariable, 99999, "variable"}, {impl.BindingMacro, 99999, "macro"}}

var noKinds = []int{0, -1, -2, -3, -4, 5, 6, 7, 8, 257, leastInt, leastInt + 1, greatestInt, 1 << 32, 1<<32 + 1, 1<<32 + 3}

var noTexts = []string{"", "1", "1a", "-1", "-1a", "A", "aB", "a b", "a ", " a", "#t", "a'", "(a)", "\"a\"", "a{1}", "a\n", "a\x00", "a\xff", "é", strings.Repeat("a", 17), strings.Repeat("a", 1000)}

var someTexts = []string{"a", "x", "-", "...", "_", "quote", "car", "define-syntax", "<=?", "a1", "-a", "+1", strings.Repeat("z", 16)}

func binding(kind, number int, s string, scopes ...int) impl.Binding {
	return impl.Binding{Text: s, Scopes: scopes, Kind: kind, Number: number}
}

func variable(number int, s string, scopes ...int) impl.Binding {
	return binding(impl.BindingVariable, number, s, scopes...)
}

// manyBindings returns this number of bindings, with different names.
func manyBindings(n int) []impl.Binding {
	result := make([]impl.Binding, n)
	for i := range result {
		result[i] = variable(i, "v"+strconv.Itoa(i))
	}
	return result
}

// manySets returns this number of bindings of one name, with different sets.
func manySets(n int, s string) []impl.Binding {
	result := make([]impl.Binding, n)
	for i := range result {
		result[i] = variable(7, s, i+1, 50000)
	}
	return result
}

// sameBinding is written apart from EqualBindings, which is under test.
func sameBinding(a, b impl.Binding) bool {
	return a.Text == b.Text && a.Kind == b.Kind && a.Number == b.Number && sameInts(a.Scopes, b.Scopes)
}

func sameBindings(a, b []impl.Binding) bool {
	if len(a) != len(b) {
		return false
	}
	for i := range a {
		if !sameBinding(a[i], b[i]) {
			return false
		}
	}
	return true
}

// isGoodBinding describes a valid binding apart from IsBinding, which is under
// test.
func isGoodBinding(b impl.Binding) bool {
	good := matchesSymbol(b.Text)
	for i, n := range b.Scopes {
		good = good && n >= 1 && n <= impl.MaxScope && (i == 0 || n > b.Scopes[i-1])
	}
	for _, k := range kindsOfBindings {
		if b.Kind == k.kind {
			return good && b.Number >= 0 && b.Number <= k.last
		}
	}
	return false
}

func areGoodBindings(list []impl.Binding) bool {
	names := map[string]bool{}
	for _, b := range list {
		name := b.Text + fmt.Sprint(b.Scopes)
		if !isGoodBinding(b) || names[name] {
			return false
		}
		names[name] = true
	}
	return len(list) <= 1000
}

// badLists are lists that are not valid, each for one reason.
func badLists() [][]impl.Binding {
	lists := [][]impl.Binding{
		manyBindings(1001), manySets(1001, "x"), manyBindings(100000), {variable(1, "x"), variable(1, "x")}, {variable(1, "x"), variable(2, "x")},
		{variable(1, "x", 1, 4), variable(2, "x", 1, 4)}, {variable(1, "x"), binding(impl.BindingMacro, 1, "x")}, {binding(impl.BindingForm, 2, "x"), variable(1, "y"), binding(impl.BindingPrimitive, 2, "x")},
		{variable(0, "x", 1), variable(1, "x", 2), variable(2, "x", 1, 2), variable(3, "y", 2), variable(4, "x", 2)},
		append(manyBindings(999), variable(5, "v0")), append(manySets(999, "x"), variable(5, "x", 1, 50000)), append([]impl.Binding{variable(5, "x", 999, 50000)}, manySets(999, "x")...),
	}
	for _, b := range badBindings() {
		lists = append(lists, []impl.Binding{b}, []impl.Binding{variable(1, "x"), b}, []impl.Binding{b, variable(1, "x")})
	}
	return lists
}

// badBindings are bindings that are not valid, each for one reason.
func badBindings() []impl.Binding {
	bad := []impl.Binding{{}, {Text: "x"}, {Text: "x", Scopes: []int{1}, Number: 1}, {Kind: impl.BindingVariable}, {Kind: impl.BindingVariable, Number: 1, Scopes: []int{1}}}
	for _, k := range kindsOfBindings {
		for _, n := range []int{-1, -2, leastInt, k.last + 1, k.last + 2, impl.MaxMeaning + 1, 1 << 32, greatestInt} {
			bad = append(bad, binding(k.kind, n, "x"), binding(k.kind, n, "x", 1, 4))
		}
		for _, s := range noTexts {
			bad = append(bad, binding(k.kind, 0, s), binding(k.kind, k.last, s, 1))
		}
		for _, scopes := range noSets {
			bad = append(bad, binding(k.kind, 0, "x", scopes...))
		}
	}
	for _, kind := range noKinds {
		bad = append(bad, binding(kind, 0, "x"), binding(kind, 1, "x", 1), binding(kind, -1, "x"))
	}
	return bad
}

// noIdentifiers are syntax objects that are none, valid or not.
func noIdentifiers() []impl.Syntax {
	result := []impl.Syntax{{}, form(), form(identifier("x")), form(identifier("x", 1)), plain(number(1)), plain(boolean(1)), plain(text("x")), {Kind: impl.DatumString, Text: "x"}, {Text: "x"}, {Text: "x", Scopes: []int{1}}}
	for _, s := range noTexts {
		result = append(result, identifier(s), identifier(s, 1))
	}
	for _, scopes := range noSets {
		result = append(result, identifier("x", scopes...))
	}
	for _, kind := range []int{5, 9, -1, leastInt, greatestInt} {
		result = append(result, impl.Syntax{Kind: kind, Text: "x"}, impl.Syntax{Kind: kind, Text: "x", Scopes: []int{1}})
	}
	return append(result, impl.Syntax{Kind: impl.DatumSymbol, Text: "x", Number: 1}, impl.Syntax{Kind: impl.DatumSymbol, Text: "x", Items: leaves(1)}, nestedForms(deepNesting), impl.Syntax{Kind: impl.DatumSymbol, Text: "x", Items: []impl.Syntax{nestedForms(deepNesting)}})
}

// bindingsWithSpare copies a list into one with spare capacity, behind which a
// marker shows whether it was written to.
func bindingsWithSpare(list []impl.Binding) []impl.Binding {
	result := make([]impl.Binding, 0, len(list)+2)
	for _, b := range list {
		b.Scopes = scopesWithSpare(b.Scopes)
		result = append(result, b)
	}
	spare := result[:cap(result)]
	for i := len(result); i < len(spare); i++ {
		spare[i] = impl.Binding{Kind: 77, Text: "spare"}
	}
	return result
}

func spareBindingsAreIntact(list []impl.Binding) bool {
	for i, b := range list[:cap(list)] {
		if i < len(list) && !spareScopesAreIntact(b.Scopes) {
			return false
		}
		if i >= len(list) && !sameBinding(b, impl.Binding{Kind: 77, Text: "spare"}) {
			return false
		}
	}
	return true
}

// bindingMemory is what was seen of bindings and of their scopes.
type bindingMemory struct {
	memory
	bindings map[*impl.Binding]bool
}

func newBindingMemory() bindingMemory {
	return bindingMemory{newMemory(), map[*impl.Binding]bool{}}
}

// sharesBindings reports whether an element of a list was seen before; it adds
// all of them, and those of the spare capacity, to those seen.
func (m bindingMemory) sharesBindings(list []impl.Binding) bool {
	all := list[:cap(list)]
	for i := range all {
		if m.bindings[&all[i]] || m.sharesScopes(all[i].Scopes) {
			return true
		}
		m.bindings[&all[i]] = true
	}
	return false
}

// bindings returns at most this number of bindings with few names and sets;
// mostly they are valid.
func (g *generator) bindings(most int) []impl.Binding {
	var result []impl.Binding
	for range g.below(most + 1) {
		b := g.binding()
		if name := fmt.Sprint(b.Text, b.Scopes); g.below(20) == 0 || !hasName(result, name) {
			result = append(result, b)
		}
	}
	return result
}

func hasName(list []impl.Binding, name string) bool {
	for _, b := range list {
		if fmt.Sprint(b.Text, b.Scopes) == name {
			return true
		}
	}
	return false
}

func (g *generator) binding() impl.Binding {
	return binding(g.below(4)+1, g.below(3), []string{"a", "b", "if"}[g.below(3)], setOf(g.below(16)|g.below(4)<<6)...)
}

// strangeBinding returns a binding of any fields, often not a valid one.
func (g *generator) strangeBinding() impl.Binding {
	b := g.binding()
	switch g.below(12) {
	case 0:
		b.Text = noTexts[g.below(len(noTexts))]
	case 1:
		b.Scopes = noSets[g.below(len(noSets))]
	case 2:
		b.Kind = noKinds[g.below(len(noKinds))]
	case 3:
		b.Number = []int{-1, 11, 12, 13, 14, 99999, 100000, leastInt, greatestInt}[g.below(9)]
	}
	return b
}

// showBindings writes any bindings, also those that are not valid.
func showBindings(list ...impl.Binding) string {
	result := strconv.Itoa(len(list)) + ":"
	for i, b := range list {
		if i == 20 {
			return result + " .."
		}
		result += fmt.Sprintf(" {%.20q %.100v %d %d}", b.Text, fmt.Sprint(b.Scopes), b.Kind, b.Number)
	}
	return result
}
