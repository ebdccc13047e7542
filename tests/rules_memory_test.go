package tests

import (
	"testing"

	"loop.example/g03220/impl"
)

// capturesWithSpare and rulesWithSpare copy into slices with spare capacity,
// behind which a marker shows whether it was written to.
func capturesWithSpare(list []impl.Capture) []impl.Capture {
	result := make([]impl.Capture, 0, len(list)+2)
	for _, c := range list {
		both := formsWithSpare([]impl.Syntax{c.Name, c.Form})
		result = append(result, impl.Capture{Name: both[0], Depth: c.Depth, Form: both[1], Each: capturesWithSpare(c.Each)})
	}
	spare := result[:cap(result)]
	for i := len(result); i < len(spare); i++ {
		spare[i] = impl.Capture{Depth: 77}
	}
	return result
}

func spareCapturesAreIntact(list []impl.Capture) bool {
	for i, c := range list[:cap(list)] {
		if i < len(list) && (!spareFormIsIntact(c.Name) || !spareFormIsIntact(c.Form) || !spareCapturesAreIntact(c.Each)) {
			return false
		}
		if i >= len(list) && (c.Depth != 77 || !isZero(c.Name) || !isZero(c.Form) || len(c.Each) != 0) {
			return false
		}
	}
	return true
}

func spareFormIsIntact(s impl.Syntax) bool {
	return spareScopesAreIntact(s.Scopes) && spareFormsAreIntact(s.Items)
}

func rulesWithSpare(r impl.Rules) impl.Rules {
	return impl.Rules{Literals: formsWithSpare(r.Literals), Patterns: formsWithSpare(r.Patterns), Templates: formsWithSpare(r.Templates)}
}

func spareRulesAreIntact(r impl.Rules) bool {
	return spareFormsAreIntact(r.Literals) && spareFormsAreIntact(r.Patterns) && spareFormsAreIntact(r.Templates)
}

// captureMemory is what was seen of captures, and of what they have.
type captureMemory struct {
	memory
	captures map[*impl.Capture]bool
}

func newCaptureMemory() captureMemory {
	return captureMemory{newMemory(), map[*impl.Capture]bool{}}
}

// sharesCaptures reports whether an element of a list was seen before; it adds
// all of them, and those of the spare capacity, to those seen.
func (m captureMemory) sharesCaptures(list []impl.Capture) bool {
	all := list[:cap(list)]
	for i := range all {
		if m.captures[&all[i]] || m.sharesForm(all[i].Name) || m.sharesForm(all[i].Form) || m.sharesCaptures(all[i].Each) {
			return true
		}
		m.captures[&all[i]] = true
	}
	return false
}

func (m memory) sharesRules(r impl.Rules) bool {
	return m.sharesForms(r.Literals) || m.sharesForms(r.Patterns) || m.sharesForms(r.Templates)
}

// rulesSample has arguments for all functions of the chapter.
type rulesSample struct {
	rules    impl.Rules
	form     impl.Syntax
	captures []impl.Capture
	list     []impl.Binding
}

func rulesSamples(t *testing.T, seed int) []rulesSample {
	g := generator(seed)
	var samples []rulesSample
	add := func(r impl.Rules, s impl.Syntax, captures []impl.Capture) {
		list := bindingsWithSpare([]impl.Binding{variable(1, "a", 1), binding(impl.BindingForm, 10, "syntax-rules"), variable(2, "x"), binding(impl.BindingMacro, 1, "x", 1, 4)})
		samples = append(samples, rulesSample{rulesWithSpare(r), formsWithSpare([]impl.Syntax{s})[0], capturesWithSpare(captures), list})
	}
	for _, c := range applications {
		r, s := mustReadRules(t, c.literals, c.clauses...), mustReadForm(t, c.form)
		captures, _ := impl.MatchPattern(nil, r.Literals, form(r.Patterns[0].Items[1:]...), form(s.Items[1:]...))
		add(r, s, captures)
	}
	for _, c := range badRules {
		add(mustReadRules(t, c.literals, c.clauses...), g.syntax(2), g.captures(3, 2))
	}
	for range 200 {
		r := g.anyRules()
		add(r, g.fitting(r.Patterns[0]), g.captures(4, 3))
	}
	for range 50 {
		add(impl.Rules{Literals: []impl.Syntax{g.strangeSyntax(1)}, Patterns: []impl.Syntax{g.strangeSyntax(2)}, Templates: []impl.Syntax{g.strangeSyntax(2)}}, g.strangeSyntax(2), []impl.Capture{{Name: g.strangeSyntax(1), Form: g.strangeSyntax(1)}})
	}
	return samples
}

func TestRulesAreNotModified(t *testing.T) {
	samples, same := rulesSamples(t, 83), rulesSamples(t, 83)
	for i, s := range samples {
		impl.IsRules(s.rules)
		impl.EqualRules(s.rules, samples[0].rules)
		impl.EqualRules(samples[0].rules, s.rules)
		impl.FormatRules(s.rules)
		impl.ApplyRules(s.list, s.rules, s.form)
		impl.EqualCaptures(s.captures, samples[0].captures)
		impl.EqualCaptures(samples[0].captures, s.captures)
		parsed := formsWithSpare([]impl.Syntax{rulesFormOfAny(s.rules), s.form})
		before := formsWithSpare(parsed)
		for _, p := range parsed {
			impl.ParseRules(s.list, p)
		}
		for _, p := range append(s.rules.Patterns[:len(s.rules.Patterns):len(s.rules.Patterns)], s.form) {
			impl.IsEllipsis(p)
			impl.PatternVariables(s.rules.Literals, p)
			impl.MatchPattern(s.list, s.rules.Literals, p, s.form)
			impl.TemplateFits(s.captures, p)
			impl.Instantiate(p, s.captures)
		}
		for _, p := range s.rules.Templates {
			impl.TemplateFits(s.captures, p)
			impl.Instantiate(p, s.captures)
		}
		if !sameRules(s.rules, same[i].rules) || !spareRulesAreIntact(s.rules) || !sameSyntax(s.form, same[i].form) || !spareFormIsIntact(s.form) {
			t.Errorf("the rules %s or the form %s were modified", showRules(same[i].rules), showForm(same[i].form))
		}
		if !sameCaptures(s.captures, same[i].captures) || !spareCapturesAreIntact(s.captures) || !sameBindings(s.list, same[i].list) || !spareBindingsAreIntact(s.list) || !sameForms(parsed, before) || !spareFormsAreIntact(parsed) {
			t.Errorf("the captures %s, the bindings or the rules that were read were modified", showCaptures(same[i].captures))
		}
	}
}

// rulesFormOfAny is as rulesForm, for lists of any lengths.
func rulesFormOfAny(r impl.Rules) impl.Syntax {
	count := min(len(r.Patterns), len(r.Templates))
	return rulesForm(identifier("syntax-rules"), impl.Rules{Literals: r.Literals, Patterns: r.Patterns[:count], Templates: r.Templates[:count]})
}

func TestRulesShareNoMemory(t *testing.T) {
	found := 0
	for _, s := range rulesSamples(t, 85) {
		seen := newCaptureMemory()
		parsed := formsWithSpare([]impl.Syntax{rulesFormOfAny(s.rules)})[0]
		if seen.sharesRules(s.rules) || seen.sharesForm(s.form) || seen.sharesCaptures(s.captures) || seen.sharesForm(parsed) {
			t.Fatal("the arguments share memory")
		}
		for range 2 {
			r, ok := impl.ParseRules(s.list, parsed)
			if ok {
				found++
			}
			if seen.sharesRules(r) {
				t.Errorf("the result of ParseRules(%s) shares memory", impl.FormatSyntax(parsed))
			}
			got, _ := impl.ApplyRules(s.list, s.rules, s.form)
			if seen.sharesForm(got) {
				t.Errorf("the result of ApplyRules(%s, %s) shares memory", showRules(s.rules), showForm(s.form))
			}
			for _, p := range append(s.rules.Patterns[:len(s.rules.Patterns):len(s.rules.Patterns)], s.form) {
				variables, _ := impl.PatternVariables(s.rules.Literals, p)
				captures, _ := impl.MatchPattern(s.list, s.rules.Literals, p, s.form)
				if seen.sharesCaptures(variables) || seen.sharesCaptures(captures) {
					t.Errorf("the captures of %s and %s share memory", showForm(p), showForm(s.form))
				}
			}
			for _, p := range append(s.rules.Templates[:len(s.rules.Templates):len(s.rules.Templates)], s.rules.Patterns...) {
				got, _ := impl.Instantiate(p, s.captures)
				if seen.sharesForm(got) {
					t.Errorf("the result of Instantiate(%s, %s) shares memory", showForm(p), showCaptures(s.captures))
				}
			}
		}
	}
	if found < 50 {
		t.Errorf("only %d rules are read", found)
	}
}

// Where an argument is a result, or a part of it stands in several places, it
// is copied for each place.
func TestPartsAreCopied(t *testing.T) {
	x := formsWithSpare([]impl.Syntax{identifier("x", 1, 4)})[0]
	big := formsWithSpare([]impl.Syntax{mustReadForm(t, "(a{1} (b{2} 5))")})[0]
	seen := newCaptureMemory()
	if seen.sharesForm(x) || seen.sharesForm(big) {
		t.Fatal("the arguments share memory")
	}
	captures := []impl.Capture{one(x, big), many(identifier("y", 7), 1, one(identifier("y", 7), big), one(identifier("y", 7), big))}
	for _, template := range []impl.Syntax{x, form(x), form(x, x, form(x, x)), form(form(x, identifier("y", 7)), identifier("...")), big, form(big, big)} {
		for range 2 {
			got, ok := impl.Instantiate(template, captures)
			if !ok || seen.sharesForm(got) {
				t.Errorf("the result of Instantiate(%s) shares memory", showForm(template))
			}
		}
	}
	for _, pattern := range []impl.Syntax{x, form(x, identifier("...")), form(identifier("_"), form(x, identifier("..."))), form(form(form(x, identifier("y", 7)), identifier("...")), identifier("...")), form(form(x, identifier("...")), identifier("..."))} {
		for _, s := range []impl.Syntax{big, form(big, big), form(form(form(big, big), form(big, big)), form(form(big, big))), form()} {
			variables, ok := impl.PatternVariables(nil, pattern)
			found, _ := impl.MatchPattern(nil, nil, pattern, s)
			if !ok || seen.sharesCaptures(variables) || seen.sharesCaptures(found) {
				t.Errorf("the captures of %s and %s share memory", impl.FormatSyntax(pattern), impl.FormatSyntax(s))
			}
		}
	}
	for range 2 {
		r, ok := impl.ParseRules(impl.CoreBindings(), form(identifier("syntax-rules"), form(x, x), form(form(x, x), big), form(form(x, x), big)))
		if !ok || seen.sharesRules(r) {
			t.Errorf("the rules %s share memory, or none are read", showRules(r))
		}
		got, ok := impl.ApplyRules(nil, impl.Rules{Patterns: []impl.Syntax{form(x, x), form(x, x)}, Templates: []impl.Syntax{form(x, big), big}}, form(x, big))
		if !ok || seen.sharesForm(got) {
			t.Errorf("the result %s of ApplyRules shares memory", showForm(got))
		}
	}
	if !sameSyntax(x, identifier("x", 1, 4)) || !sameSyntax(big, mustReadForm(t, "(a{1} (b{2} 5))")) || !spareFormIsIntact(x) || !spareFormIsIntact(big) {
		t.Error("an argument was modified")
	}
}
