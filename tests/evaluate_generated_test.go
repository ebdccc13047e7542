package tests

import (
	"testing"

	"loop.example/g03220/impl"
)

func TestEvaluateGeneratedTerms(t *testing.T) {
	g := generator(23)
	ended := map[int]int{}
	texts := map[string]int{}
	for i := range 6000 {
		c := g.program(2 + i%4)
		if !isGoodCore(c, nil) {
			t.Fatalf("%s is not valid", showCore(c))
		}
		x := checkAgainstSecond(t, c, 20+g.below(100))
		ended[x.Status]++
		if x.Status == impl.StatusError {
			texts[x.Text]++
		}
	}
	if ended[impl.StatusDone] < 3000 || ended[impl.StatusError] < 300 || ended[impl.StatusTicks] < 100 || len(texts) < 8 {
		t.Errorf("outcomes of each status: %v, and the errors: %v", ended, texts)
	}
}

// P7: a smaller budget stops the evaluation earlier, and does not change it
// otherwise.
func TestP7Budgets(t *testing.T) {
	g := generator(29)
	ended := map[int]int{}
	for i := range 1200 {
		c := g.program(3 + i%4)
		x := impl.EvaluateCore(c, 5000)
		ended[x.Status]++
		budgets := []int{g.below(5001), max(x.Ticks-1, 0), x.Ticks, min(x.Ticks+1, 5000)}
		for b := range min(x.Ticks, 40) {
			budgets = append(budgets, b)
		}
		checkBudgets(t, c, budgets)
	}
	if ended[impl.StatusDone] < 500 || ended[impl.StatusError] < 100 || ended[impl.StatusTicks] < 30 || ended[impl.StatusFull] < 5 {
		t.Errorf("outcomes of each status: %v", ended)
	}
}

// P7: evaluation does not depend on the names of variables.
func TestP7Names(t *testing.T) {
	g := generator(31)
	renamed, ticks := 0, 0
	check := func(c impl.Core) {
		t.Helper()
		others := []impl.Core{g.renamedBinders(c), g.renamedBinders(c)}
		for _, first := range []int{0, 1, g.below(90000)} {
			if other, next := impl.RenumberCore(c, first); next > first {
				others = append(others, other)
			}
		}
		for _, budget := range []int{5000, g.below(60)} {
			wanted := impl.EvaluateCore(c, budget)
			ticks += wanted.Ticks
			for _, other := range others {
				if !impl.AlphaEqual(c, other) {
					t.Fatalf("%s is not %s", showTerm(c), showTerm(other))
				}
				if !sameCore(c, other) {
					renamed++
				}
				if got := impl.EvaluateCore(other, budget); !sameOutcome(got, wanted) {
					t.Errorf("EvaluateCore(%s, %d) = %s, but %s for %s", showTerm(c), budget, showOutcome(wanted), showOutcome(got), showTerm(other))
				}
			}
		}
	}
	for i := range 1500 {
		check(g.program(2 + i%4))
	}
	for _, l := range g.laws() {
		check(l.left)
		check(l.right)
	}
	// Names in the order of the binders, in the other one, and in none.
	for _, source := range []string{
		"((lambda (v1 v2 v3) (cons v1 (cons v2 v3))) 1 2 3)", "((lambda (v3 v2 v1) (cons v3 (cons v2 v1))) 1 2 3)", "((lambda (v9) ((lambda (v5) ((lambda (v7) (cons v9 (cons v5 v7))) 3)) 2)) 1)",
		"(local (v4 v99999 v0) (set! v0 1) (set! v4 2) (set! v99999 (lambda (v3) (cons v3 v0))) (v99999 v4))", "(reset (cons 1 (shift v8 (cons (v8 2) (shift v2 (v2 (v8 3)))))))",
	} {
		check(term(t, source))
	}
	if renamed < 6000 || ticks < 50000 {
		t.Errorf("only %d terms are renamed, with %d ticks", renamed, ticks)
	}
}
