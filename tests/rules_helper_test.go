package tests

import (
	"fmt"
	"strings"
	"testing"

	"loop.example/g03220/impl"
)

// mustReadForms reads the texts of syntax objects, separated by spaces.
func mustReadForms(t *testing.T, source string) []impl.Syntax {
	t.Helper()
	return mustReadForm(t, "("+source+")").Items
}

// mustReadRules reads literals, and clauses of a pattern and a template each.
func mustReadRules(t *testing.T, literals string, clauses ...string) impl.Rules {
	t.Helper()
	r := impl.Rules{Literals: mustReadForms(t, literals)}
	for _, clause := range clauses {
		both := mustReadForms(t, clause)
		if len(both) != 2 {
			t.Fatalf("%q is no clause", clause)
		}
		r.Patterns = append(r.Patterns, both[0])
		r.Templates = append(r.Templates, both[1])
	}
	return r
}

// one is a capture of Depth 0.
func one(name, s impl.Syntax) impl.Capture { return impl.Capture{Name: name, Form: s} }

func many(name impl.Syntax, depth int, each ...impl.Capture) impl.Capture {
	return impl.Capture{Name: name, Depth: depth, Each: each}
}

// mustReadCaptures reads captures as showCaptures writes them: x=form for a
// capture of Depth 0, and x^2[.. ..] for one that has others, of the same name
// and less Depth, of which x^1[.. ..] and =form are written.
func mustReadCaptures(t *testing.T, sources ...string) []impl.Capture {
	t.Helper()
	var result []impl.Capture
	for _, source := range sources {
		at := strings.IndexAny(source, "=^")
		if at < 0 {
			t.Fatalf("%q is no capture", source)
		}
		name := mustReadForm(t, source[:at])
		rest := source[at:]
		result = append(result, mustReadCapture(t, name, &rest))
		if rest != "" {
			t.Fatalf("%q follows a capture", rest)
		}
	}
	return result
}

func mustReadCapture(t *testing.T, name impl.Syntax, rest *string) impl.Capture {
	t.Helper()
	if (*rest)[0] == '=' {
		end := len(*rest)
		if i := strings.IndexAny(*rest, ";]"); i >= 0 {
			end = i
		}
		s := mustReadForm(t, (*rest)[1:end])
		*rest = (*rest)[end:]
		return one(name, s)
	}
	c := many(name, int((*rest)[1]-'0'))
	*rest = strings.TrimPrefix((*rest)[2:], "[")
	for (*rest)[0] != ']' {
		c.Each = append(c.Each, mustReadCapture(t, name, rest))
		*rest = strings.TrimPrefix(*rest, ";")
	}
	*rest = (*rest)[1:]
	return c
}

// showCaptures writes any captures.
func showCaptures(list []impl.Capture) string {
	var texts []string
	for i, c := range list {
		if i == 6 {
			texts = append(texts, "..")
			break
		}
		texts = append(texts, fmt.Sprintf("%s^%d=%s[%s]", showForm(c.Name), c.Depth, showForm(c.Form), showCaptures(c.Each)))
	}
	return strings.Join(texts, ";")
}

// showVariables writes the names and depths of valid variables.
func showVariables(list []impl.Capture) string {
	var texts []string
	for _, c := range list {
		texts = append(texts, impl.FormatSyntax(c.Name)+":"+fmt.Sprint(c.Depth))
	}
	return strings.Join(texts, " ")
}

func showRules(r impl.Rules) string {
	return fmt.Sprintf("literals %.300s patterns %.300s templates %.300s", showForm(form(r.Literals...)), showForm(form(r.Patterns...)), showForm(form(r.Templates...)))
}

// sameCaptures and sameRules are written apart from EqualCaptures and
// EqualRules, which are under test.
func sameCaptures(a, b []impl.Capture) bool {
	if len(a) != len(b) {
		return false
	}
	for i := range a {
		if !sameSyntax(a[i].Name, b[i].Name) || a[i].Depth != b[i].Depth || !sameSyntax(a[i].Form, b[i].Form) || !sameCaptures(a[i].Each, b[i].Each) {
			return false
		}
	}
	return true
}

func sameRules(a, b impl.Rules) bool {
	return sameForms(a.Literals, b.Literals) && sameForms(a.Patterns, b.Patterns) && sameForms(a.Templates, b.Templates)
}

func isZero(s impl.Syntax) bool { return sameSyntax(s, impl.Syntax{}) }

// eachNode calls f with each node of s and the path of indices to it.
func eachNode(s impl.Syntax, f func(path []int, node impl.Syntax)) {
	var visit func(path []int, node impl.Syntax)
	visit = func(path []int, node impl.Syntax) {
		f(path, node)
		for i, item := range node.Items {
			visit(append(path[:len(path):len(path)], i), item)
		}
	}
	visit(nil, s)
}

func nodeAt(s impl.Syntax, path []int) impl.Syntax {
	for _, i := range path {
		s = s.Items[i]
	}
	return s
}

func hasDots(s impl.Syntax) bool { return s.Kind == impl.DatumSymbol && s.Text == "..." }

// isRepeatedAt reports whether the node at this path is followed by an
// ellipsis.
func isRepeatedAt(s impl.Syntax, path []int) bool {
	if len(path) == 0 {
		return false
	}
	items := nodeAt(s, path[:len(path)-1]).Items
	next := path[len(path)-1] + 1
	return next < len(items) && hasDots(items[next])
}

// countRepeated returns how many nodes on the way to this path, itself
// included, are followed by an ellipsis.
func countRepeated(s impl.Syntax, path []int) int {
	count := 0
	for n := 1; n <= len(path); n++ {
		if isRepeatedAt(s, path[:n]) {
			count++
		}
	}
	return count
}

func isAmong(list []impl.Syntax, s impl.Syntax) bool {
	for _, other := range list {
		if sameSyntax(other, s) {
			return true
		}
	}
	return false
}

// areGoodLiterals, describedVariables, templateIsGood and areGoodRules describe
// what chapter 5 says by the paths of nodes, apart from the program.
func areGoodLiterals(literals []impl.Syntax) bool {
	for _, s := range literals {
		if s.Kind != impl.DatumSymbol || !isGoodForm(s, 40) || s.Text == "..." || s.Text == "_" {
			return false
		}
	}
	return len(literals) <= 8
}

func isSmallGoodForm(s impl.Syntax) bool { return isGoodForm(s, 40) && impl.CountSyntax(s) <= 2000 }

func describedVariables(literals []impl.Syntax, pattern impl.Syntax) ([]impl.Capture, bool) {
	if !areGoodLiterals(literals) || !isSmallGoodForm(pattern) {
		return nil, false
	}
	var found []impl.Capture
	var names []impl.Syntax
	good := true
	eachNode(pattern, func(path []int, node impl.Syntax) {
		dots := 0
		for _, item := range node.Items {
			if hasDots(item) {
				dots++
			}
		}
		isFirst := len(path) == 0 || path[len(path)-1] == 0
		if dots > 1 || hasDots(node) && isFirst {
			good = false
		}
		if node.Kind != impl.DatumSymbol || node.Text == "..." || node.Text == "_" || isAmong(literals, node) {
			return
		}
		depth := countRepeated(pattern, path)
		if depth > 3 || isAmong(names, node) {
			good = false
		}
		names = append(names, node)
		found = append(found, impl.Capture{Name: node, Depth: depth})
	})
	if !good {
		return nil, false
	}
	return found, true
}

// variableNamed returns the first of these variables that has this name.
func variableNamed(variables []impl.Capture, s impl.Syntax) (impl.Capture, bool) {
	for _, c := range variables {
		if s.Kind == impl.DatumSymbol && s.Text != "..." && sameSyntax(c.Name, s) {
			return c, true
		}
	}
	return impl.Capture{}, false
}

func ellipsesAreGood(template impl.Syntax) bool {
	good := true
	eachNode(template, func(path []int, node impl.Syntax) {
		if !hasDots(node) {
			return
		}
		if len(path) == 0 || path[len(path)-1] == 0 {
			good = false
			return
		}
		before := append([]int(nil), path...)
		before[len(before)-1]--
		if hasDots(nodeAt(template, before)) {
			good = false
		}
	})
	return good
}

func templateIsGood(variables []impl.Capture, template impl.Syntax) bool {
	for _, c := range variables {
		if c.Name.Kind != impl.DatumSymbol || !isGoodForm(c.Name, 40) || c.Depth < 0 {
			return false
		}
	}
	if !isSmallGoodForm(template) || !ellipsesAreGood(template) {
		return false
	}
	good := true
	eachNode(template, func(path []int, node impl.Syntax) {
		if c, ok := variableNamed(variables, node); ok && countRepeated(template, path) < c.Depth {
			good = false
		}
		if !isRepeatedAt(template, path) || hasDots(node) {
			return
		}
		others := countRepeated(template, path[:len(path)-1])
		hasOne := false
		eachNode(node, func(_ []int, inner impl.Syntax) {
			c, ok := variableNamed(variables, inner)
			hasOne = hasOne || ok && c.Depth > others
		})
		good = good && hasOne
	})
	return good
}

func areGoodRules(r impl.Rules) bool {
	if !areGoodLiterals(r.Literals) || len(r.Patterns) != len(r.Templates) || len(r.Patterns) < 1 || len(r.Patterns) > 12 {
		return false
	}
	nodes := 0
	for i, p := range r.Patterns {
		nodes += impl.CountSyntax(p) + impl.CountSyntax(r.Templates[i])
		if !isSmallGoodForm(p) || p.Kind != impl.DatumList || len(p.Items) == 0 || p.Items[0].Kind != impl.DatumSymbol || p.Items[0].Text == "..." {
			return false
		}
		variables, ok := describedVariables(r.Literals, form(p.Items[1:]...))
		if !ok || !templateIsGood(variables, r.Templates[i]) {
			return false
		}
	}
	return nodes <= 2000
}

// describedCaptures matches a form: it writes each repeated item as often as
// there are items for it, and then looks for each variable on its path.
func describedCaptures(list []impl.Binding, literals []impl.Syntax, pattern, s impl.Syntax) ([]impl.Capture, bool) {
	variables, ok := describedVariables(literals, pattern)
	if !ok || !areGoodBindings(list) || !isSmallGoodForm(s) || !agrees(list, literals, pattern, s) {
		return nil, false
	}
	var result []impl.Capture
	eachNode(pattern, func(path []int, node impl.Syntax) {
		if _, ok := variableNamed(variables, node); ok {
			result = append(result, captureOnPath(pattern, path, s))
		}
	})
	return result, true
}

func agrees(list []impl.Binding, literals []impl.Syntax, pattern, s impl.Syntax) bool {
	switch {
	case pattern.Kind == impl.DatumSymbol && pattern.Text == "_":
		return true
	case pattern.Kind == impl.DatumSymbol:
		return !isAmong(literals, pattern) || impl.SameMeaning(list, pattern, s)
	case pattern.Kind != impl.DatumList || s.Kind != impl.DatumList:
		return pattern.Kind == s.Kind && pattern.Number == s.Number && pattern.Text == s.Text
	}
	items := writtenOut(pattern.Items, len(s.Items))
	if len(items) != len(s.Items) {
		return false
	}
	for i := range items {
		if !agrees(list, literals, items[i], s.Items[i]) {
			return false
		}
	}
	return true
}

// writtenOut returns the items with copies of a repeated one, so that they are
// this many if possible.
func writtenOut(items []impl.Syntax, count int) []impl.Syntax {
	for i, item := range items {
		if !hasDots(item) {
			continue
		}
		result := append([]impl.Syntax(nil), items[:i-1]...)
		for range count - (len(items) - 2) {
			result = append(result, items[i-1])
		}
		return append(result, items[i+1:]...)
	}
	return items
}

// captureOnPath returns what the variable at this path of a pattern captures
// of a form that matches.
func captureOnPath(pattern impl.Syntax, path []int, s impl.Syntax) impl.Capture {
	if len(path) == 0 {
		return one(pattern, s)
	}
	at := path[0]
	extra := len(s.Items) - len(pattern.Items)
	if isRepeatedAt(pattern, path[:1]) {
		c := many(nodeAt(pattern, path), countRepeated(pattern, path))
		for i := at; i <= at+extra+1; i++ {
			c.Each = append(c.Each, captureOnPath(pattern.Items[at], path[1:], s.Items[i]))
		}
		return c
	}
	place := at
	for _, before := range pattern.Items[:at] {
		if hasDots(before) {
			place += extra
		}
	}
	return captureOnPath(pattern.Items[at], path[1:], s.Items[place])
}

// describedResult instantiates a template by the letter of the chapter, however
// large the result becomes.
func describedResult(template impl.Syntax, captures []impl.Capture) (impl.Syntax, bool) {
	if !isSmallGoodForm(template) || !ellipsesAreGood(template) {
		return impl.Syntax{}, false
	}
	result, ok := replaced(template, captures)
	if !ok || !isSmallGoodForm(result) {
		return impl.Syntax{}, false
	}
	return result, true
}

func replaced(s impl.Syntax, captures []impl.Capture) (impl.Syntax, bool) {
	if c, ok := variableNamed(captures, s); ok {
		return c.Form, c.Depth == 0
	}
	result := s
	result.Items = nil
	for i, item := range s.Items {
		instances := [][]impl.Capture{captures}
		ok := true
		if hasDots(item) {
			continue
		}
		if isRepeatedAt(s, []int{i}) {
			instances, ok = instancesOf(item, captures)
		}
		for _, instance := range instances {
			next, fine := replaced(item, instance)
			ok = ok && fine
			result.Items = append(result.Items, next)
		}
		if !ok {
			return impl.Syntax{}, false
		}
	}
	return result, true
}

// instancesOf returns, for each repetition of an item, all captures as they are
// within it.
func instancesOf(item impl.Syntax, captures []impl.Capture) ([][]impl.Capture, bool) {
	count := -1
	var isReplaced []bool
	good := true
	for i, c := range captures {
		stands := false
		eachNode(item, func(_ []int, node impl.Syntax) {
			_, before := variableNamed(captures[:i], node)
			_, now := variableNamed(captures[i:i+1], node)
			stands = stands || now && !before
		})
		isReplaced = append(isReplaced, stands && c.Depth > 0)
		if stands && c.Depth > 0 {
			good = good && (count == -1 || count == len(c.Each))
			count = len(c.Each)
		}
	}
	if !good || count == -1 {
		return nil, false
	}
	var instances [][]impl.Capture
	for n := range count {
		var instance []impl.Capture
		for i, c := range captures {
			if isReplaced[i] {
				c = c.Each[n]
			}
			instance = append(instance, c)
		}
		instances = append(instances, instance)
	}
	return instances, true
}

var fewNames = []impl.Syntax{
	identifier("x"), identifier("y"), identifier("z"), identifier("if"), identifier("else"), identifier("x", 1), identifier("x", 1, 4), identifier("y", 2), identifier("else", 4),
}

// fewLiterals has lists of literals; the last two are not valid.
var fewLiterals = [][]impl.Syntax{
	nil, {identifier("a")}, {identifier("a", 1), identifier("b")}, {identifier("a"), identifier("b"), identifier("c"), identifier("d"), identifier("e", 1)}, {identifier("a"), identifier("_")}, {identifier("...")},
}

func (g *generator) literals() []impl.Syntax {
	if g.below(20) == 0 {
		return fewLiterals[g.below(len(fewLiterals))]
	}
	return fewLiterals[g.below(len(fewLiterals)-2)]
}

var fewConstants = []impl.Syntax{
	identifier("_"), identifier("_", 3), plain(number(1)), plain(boolean(1)), plain(text("x")), form(), form(identifier("_"), identifier("...")),
}

func (g *generator) name() impl.Syntax { return fewNames[g.below(len(fewNames))] }

// pattern returns a pattern over few names; most are valid.
func (g *generator) pattern(depth int) impl.Syntax {
	switch kind := g.below(10); {
	case kind < 5 && depth > 0:
		var items []impl.Syntax
		dots := g.below(6)
		for i := range 1 + g.below(5) {
			items = append(items, g.pattern(depth-1))
			if i == dots || g.below(200) == 0 {
				items = append(items, identifier("...", g.scopeSet(12)...))
			}
		}
		return form(items...)
	case kind == 5:
		return fewConstants[g.below(len(fewConstants))]
	case kind == 6 && g.below(2) == 0:
		return identifier([]string{"a", "b", "c", "d", "e", "f"}[g.below(6)], [][]int{nil, {1}, {2}, {5}}[g.below(4)]...)
	case kind == 7 && g.below(50) == 0:
		return identifier("...")
	}
	return identifier("v" + fmt.Sprint(g.below(10000)))
}

// fitting returns a form that mostly matches a pattern.
func (g *generator) fitting(pattern impl.Syntax) impl.Syntax {
	switch {
	case g.below(40) == 0:
		return g.syntax(1)
	case pattern.Kind == impl.DatumSymbol && pattern.Text == "_", pattern.Kind == impl.DatumSymbol && strings.HasPrefix(pattern.Text, "v"):
		return g.syntax(1)
	case pattern.Kind != impl.DatumList:
		return pattern
	}
	var items []impl.Syntax
	for i, item := range pattern.Items {
		if hasDots(item) {
			continue
		}
		times := 1
		if isRepeatedAt(pattern, []int{i}) {
			times = g.below(4)
		} else if g.below(60) == 0 {
			times = g.below(3)
		}
		for range times {
			items = append(items, g.fitting(item))
		}
	}
	return form(items...)
}

// template returns a template with these identifiers; some fit.
func (g *generator) template(ids []impl.Syntax, depth int) impl.Syntax {
	if depth > 0 && g.below(2) == 0 {
		var items []impl.Syntax
		for range g.below(5) {
			items = append(items, g.template(ids, depth-1))
			if g.below(3) == 0 {
				items = append(items, identifier("...", g.scopeSet(12)...))
			}
		}
		return form(items...)
	}
	if len(ids) == 0 || g.below(5) == 0 {
		return g.syntax(0)
	}
	return ids[g.below(len(ids))]
}

// captures returns some of few names; their fields need not fit together.
func (g *generator) captures(most, depth int) []impl.Capture {
	var result []impl.Capture
	for range g.below(most + 1) {
		result = append(result, g.capture(g.name(), depth))
	}
	return result
}

func (g *generator) capture(name impl.Syntax, depth int) impl.Capture {
	c := impl.Capture{Name: name, Depth: g.below(depth + 1)}
	switch g.below(40) {
	case 0:
		c.Depth = []int{-1, leastInt, greatestInt, 4}[g.below(4)]
	case 1:
		c.Name = g.strangeSyntax(1)
	case 2:
		c.Name = g.name()
	}
	if c.Depth == 0 || g.below(20) == 0 {
		c.Form = g.syntax(1)
	}
	if g.below(40) == 0 {
		c.Form = g.strangeSyntax(2)
	}
	if c.Depth > 0 {
		count := 2
		if g.below(4) == 0 {
			count = g.below(4)
		}
		for range count {
			below := min(c.Depth-1, 3)
			next := g.capture(c.Name, below)
			if g.below(10) > 0 {
				next.Depth = below
			}
			c.Each = append(c.Each, next)
		}
	}
	return c
}
