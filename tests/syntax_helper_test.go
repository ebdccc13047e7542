package tests

import (
	"strconv"
	"strings"
	"testing"

	"loop.example/g03220/impl"
)

func identifier(s string, scopes ...int) impl.Syntax {
	return impl.Syntax{Kind: impl.DatumSymbol, Text: s, Scopes: scopes}
}

// plain returns a node without scopes and items.
func plain(d impl.Datum) impl.Syntax {
	return impl.Syntax{Kind: d.Kind, Number: d.Number, Text: d.Text}
}

func form(items ...impl.Syntax) impl.Syntax {
	return impl.Syntax{Kind: impl.DatumList, Items: items}
}

// nestedForms returns the empty list within lists, of this depth.
func nestedForms(depth int) impl.Syntax {
	s := form()
	for range depth - 1 {
		s = form(s)
	}
	return s
}

// leaves returns this number of syntax objects of one node.
func leaves(n int) []impl.Syntax {
	result := make([]impl.Syntax, n)
	for i := range result {
		result[i] = plain(number(i))
	}
	return result
}

// sameSyntax is written apart from EqualSyntax, which is under test.
func sameSyntax(a, b impl.Syntax) bool {
	return a.Kind == b.Kind && a.Number == b.Number && a.Text == b.Text && sameInts(a.Scopes, b.Scopes) && sameForms(a.Items, b.Items)
}

func sameForms(a, b []impl.Syntax) bool {
	if len(a) != len(b) {
		return false
	}
	for i := range a {
		if !sameSyntax(a[i], b[i]) {
			return false
		}
	}
	return true
}

func sameInts(a, b []int) bool {
	if len(a) != len(b) {
		return false
	}
	for i := range a {
		if a[i] != b[i] {
			return false
		}
	}
	return true
}

const spareScope = -77

// scopesWithSpare copies a list into one with spare capacity, behind which a
// marker shows whether it was written to.
func scopesWithSpare(scopes []int) []int {
	result := append(make([]int, 0, len(scopes)+2), scopes...)
	result[:cap(result)][len(result)] = spareScope
	result[:cap(result)][len(result)+1] = spareScope
	return result
}

func spareScopesAreIntact(scopes []int) bool {
	for _, n := range scopes[len(scopes):cap(scopes)] {
		if n != spareScope {
			return false
		}
	}
	return true
}

func formsWithSpare(items []impl.Syntax) []impl.Syntax {
	result := make([]impl.Syntax, 0, len(items)+2)
	for _, s := range items {
		s.Scopes, s.Items = scopesWithSpare(s.Scopes), formsWithSpare(s.Items)
		result = append(result, s)
	}
	spare := result[:cap(result)]
	for i := len(result); i < len(spare); i++ {
		spare[i] = impl.Syntax{Kind: 77, Text: "spare"}
	}
	return result
}

func spareFormsAreIntact(items []impl.Syntax) bool {
	for i, s := range items[:cap(items)] {
		if i < len(items) && (!spareScopesAreIntact(s.Scopes) || !spareFormsAreIntact(s.Items)) {
			return false
		}
		if i >= len(items) && !sameSyntax(s, impl.Syntax{Kind: 77, Text: "spare"}) {
			return false
		}
	}
	return true
}

// memory is what was seen of slices, with their spare capacity.
type memory struct {
	forms  map[*impl.Syntax]bool
	scopes map[*int]bool
	data   map[*impl.Datum]bool
}

func newMemory() memory {
	return memory{map[*impl.Syntax]bool{}, map[*int]bool{}, map[*impl.Datum]bool{}}
}

// sharesScopes reports whether an element was seen before; it adds all of them
// to those seen.
func (m memory) sharesScopes(scopes []int) bool {
	all := scopes[:cap(scopes)]
	for i := range all {
		if m.scopes[&all[i]] {
			return true
		}
		m.scopes[&all[i]] = true
	}
	return false
}

func (m memory) sharesForm(s impl.Syntax) bool {
	return m.sharesScopes(s.Scopes) || m.sharesForms(s.Items)
}

func (m memory) sharesForms(items []impl.Syntax) bool {
	all := items[:cap(items)]
	for i := range all {
		if m.forms[&all[i]] {
			return true
		}
		m.forms[&all[i]] = true
		if m.sharesForm(all[i]) {
			return true
		}
	}
	return false
}

func (m memory) sharesDatum(d impl.Datum) bool { return shares(d.Items, m.data) }

// scopeSet returns a set of at most 4 scopes below limit.
func (g *generator) scopeSet(limit int) []int {
	var scopes []int
	for n := range 4 {
		if g.below(3) == 0 {
			scopes = append(scopes, n*limit/4+1+g.below(limit/4))
		}
	}
	return scopes
}

// syntax returns a valid syntax object if depth is small enough for MaxSyntax.
func (g *generator) syntax(depth int) impl.Syntax {
	return g.scoped(g.datum(depth))
}

func (g *generator) scoped(d impl.Datum) impl.Syntax {
	s := plain(d)
	if d.Kind == impl.DatumSymbol {
		s.Scopes = g.scopeSet(12)
	}
	for _, item := range d.Items {
		s.Items = append(s.Items, g.scoped(item))
	}
	return s
}

// strangeSyntax returns one of any fields, mostly not a valid one.
func (g *generator) strangeSyntax(depth int) impl.Syntax {
	d := g.strange(0)
	s := plain(d)
	switch kind := g.below(8); {
	case kind == 0:
		s.Scopes = [][]int{{}, {1}, {2, 1}, {3, 3}, {0}, {-1, 2}, {1, impl.MaxScope + 1}, {leastInt}}[g.below(8)]
	case kind < 6 && d.Kind == impl.DatumSymbol:
		s.Scopes = g.scopeSet(impl.MaxScope)
	}
	if d.Kind != impl.DatumList && g.below(8) > 0 {
		return s
	}
	for range g.below(4) {
		if depth > 0 {
			s.Items = append(s.Items, g.strangeSyntax(depth-1))
		}
	}
	return s
}

var spacedParentheses = strings.NewReplacer("(", " ( ", ")", " ) ")

// mustReadForm reads text as FormatSyntax writes it, with strings that contain
// no spaces and parentheses.
func mustReadForm(t *testing.T, source string) impl.Syntax {
	t.Helper()
	words := strings.Fields(spacedParentheses.Replace(source))
	open := []impl.Syntax{{}}
	for _, word := range words {
		switch last := len(open) - 1; {
		case word == "(":
			open = append(open, form())
		case word == ")" && last > 0:
			open[last-1].Items = append(open[last-1].Items, open[last])
			open = open[:last]
		default:
			open[last].Items = append(open[last].Items, mustReadWord(t, word))
		}
	}
	if len(open) != 1 || len(open[0].Items) != 1 {
		t.Fatalf("%q is not the text of one syntax object", source)
	}
	return open[0].Items[0]
}

func mustReadWord(t *testing.T, word string) impl.Syntax {
	t.Helper()
	base, scopes, found := strings.Cut(strings.TrimSuffix(word, "}"), "{")
	s := plain(mustParseOne(t, base))
	if !found {
		return s
	}
	for _, scope := range strings.Split(scopes, ",") {
		n, err := strconv.Atoi(scope)
		if err != nil {
			t.Fatalf("%q has no scopes", word)
		}
		s.Scopes = append(s.Scopes, n)
	}
	return s
}

// showForm writes any syntax object, also one that is not valid.
func showForm(s impl.Syntax) string {
	result := "{" + strconv.Itoa(s.Kind) + " " + strconv.Itoa(s.Number) + " " + strconv.Quote(s.Text) + " ["
	for i, n := range s.Scopes {
		if i == 10 {
			result += ".."
			break
		}
		result += strconv.Itoa(n) + ","
	}
	result += "]"
	for i, item := range s.Items {
		if i == 5 || len(result) > 200 {
			return result + " ..}"
		}
		result += " " + showForm(plain(impl.Datum{Kind: item.Kind, Number: item.Number, Text: item.Text}))
	}
	return result + "}"
}
