package tests

import (
	"strings"
	"testing"

	"loop.example/g03220/impl"
)

const leastInt = -1 << 63
const greatestInt = 1<<63 - 1

// deepNesting is the greatest depth for which the document guarantees anything.
const deepNesting = 1 << 16

func symbol(s string) impl.Datum { return impl.Datum{Kind: impl.DatumSymbol, Text: s} }

func number(n int) impl.Datum { return impl.Datum{Kind: impl.DatumNumber, Number: n} }

func boolean(n int) impl.Datum { return impl.Datum{Kind: impl.DatumBoolean, Number: n} }

func text(s string) impl.Datum { return impl.Datum{Kind: impl.DatumString, Text: s} }

func list(items ...impl.Datum) impl.Datum { return impl.Datum{Kind: impl.DatumList, Items: items} }

// nested returns the empty list within lists, of this depth.
func nested(depth int) impl.Datum {
	d := list()
	for range depth - 1 {
		d = list(d)
	}
	return d
}

// atoms returns this number of data of one node.
func atoms(n int) []impl.Datum {
	result := make([]impl.Datum, n)
	for i := range result {
		result[i] = number(i)
	}
	return result
}

// sameDatum is written apart from EqualData, which is under test.
func sameDatum(a, b impl.Datum) bool {
	return a.Kind == b.Kind && a.Number == b.Number && a.Text == b.Text && sameData(a.Items, b.Items)
}

func sameData(a, b []impl.Datum) bool {
	if len(a) != len(b) {
		return false
	}
	for i := range a {
		if !sameDatum(a[i], b[i]) {
			return false
		}
	}
	return true
}

// cloneWithSpare copies data into slices with spare capacity, behind which a
// marker shows whether it was written to.
func cloneWithSpare(items []impl.Datum) []impl.Datum {
	result := make([]impl.Datum, 0, len(items)+2)
	for _, d := range items {
		d.Items = cloneWithSpare(d.Items)
		result = append(result, d)
	}
	spare := result[:cap(result)]
	for i := len(result); i < len(spare); i++ {
		spare[i] = impl.Datum{Kind: 77, Text: "spare"}
	}
	return result
}

func spareIsIntact(items []impl.Datum) bool {
	for i, d := range items[:cap(items)] {
		if i < len(items) && !spareIsIntact(d.Items) {
			return false
		}
		if i >= len(items) && (d.Kind != 77 || d.Text != "spare" || d.Number != 0 || d.Items != nil) {
			return false
		}
	}
	return true
}

// shares reports whether an element of a slice within items, or of its spare
// capacity, was seen before; it adds all of them to those seen.
func shares(items []impl.Datum, seen map[*impl.Datum]bool) bool {
	all := items[:cap(items)]
	for i := range all {
		if seen[&all[i]] {
			return true
		}
		seen[&all[i]] = true
		if shares(all[i].Items, seen) {
			return true
		}
	}
	return false
}

// generator yields the same numbers in each run.
type generator uint64

func (g *generator) below(n int) int {
	*g = *g*6364136223846793005 + 1442695040888963407
	return int(uint64(*g)>>33) % n
}

func (g *generator) chars(alphabet string, most int) string {
	var b strings.Builder
	for range g.below(most + 1) {
		b.WriteByte(alphabet[g.below(len(alphabet))])
	}
	return b.String()
}

// datum returns a valid datum if depth is small enough for MaxNodes.
func (g *generator) datum(depth int) impl.Datum {
	switch kind := g.below(6); {
	case kind == impl.DatumSymbol:
		s := g.chars("ab-+.19?", 6)
		if !matchesSymbol(s) {
			s = "quote"
		}
		return symbol(s)
	case kind == impl.DatumNumber:
		return number(g.below(2*impl.MaxNumber+1) - impl.MaxNumber)
	case kind == impl.DatumBoolean:
		return boolean(g.below(2))
	case kind == impl.DatumString:
		return text(g.chars("a ();'#\\~1", impl.MaxString))
	case depth == 0:
		return list()
	}
	var items []impl.Datum
	for range g.below(5) {
		items = append(items, g.datum(depth-1))
	}
	return list(items...)
}

// strange returns a datum of any fields, mostly not a valid one.
func (g *generator) strange(depth int) impl.Datum {
	d := g.datum(0)
	switch g.below(8) {
	case 0:
		d.Kind = g.below(9) - 2
	case 1:
		d.Number = g.below(5) - 2
	case 2:
		d.Text = g.chars("a1-\"\n\x00\xff", 3)
	case 3:
		d.Kind = []int{leastInt, greatestInt, -1, 5}[g.below(4)]
	}
	for range g.below(4) {
		if depth > 0 {
			d.Items = append(d.Items, g.strange(depth-1))
		}
	}
	return d
}

// eachString calls f with each string of at most this length over an alphabet.
func eachString(alphabet string, most int, f func(s string)) {
	var extend func(s string, left int)
	extend = func(s string, left int) {
		f(s)
		if left == 0 {
			return
		}
		for i := range len(alphabet) {
			extend(s+alphabet[i:i+1], left-1)
		}
	}
	extend("", most)
}

func mustParse(t *testing.T, source string) []impl.Datum {
	t.Helper()
	data, ok := impl.ParseData(source)
	if !ok {
		t.Fatalf("ParseData(%q) fails", source)
	}
	return data
}

func mustParseOne(t *testing.T, source string) impl.Datum {
	t.Helper()
	data := mustParse(t, source)
	if len(data) != 1 {
		t.Fatalf("ParseData(%q) reads %d data, not one", source, len(data))
	}
	return data[0]
}
