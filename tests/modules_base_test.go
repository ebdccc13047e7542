package tests

import (
	"strings"
	"testing"

	"loop.example/g03220/impl"
)

// The expander of the given tests of chapter 7: the core bindings, and the nine
// macros that are bound to their names without scopes.
func TestLoadBase(t *testing.T) {
	names := strings.Fields("let let* letrec and or when cond while swap!")
	want := usualExpander(t)
	want.Bindings = impl.CoreBindings()
	want.Macros = want.Macros[:len(names)]
	want.Variable = 0
	for i, name := range names {
		want.Bindings = append(want.Bindings, binding(impl.BindingMacro, i, name))
	}
	got := impl.LoadBase()
	if !sameExpander(got, want) || !impl.IsExpander(got) {
		t.Errorf("LoadBase() = the %s", showExpander(got))
	}
	seen := newExpanderMemory()
	if seen.sharesExpander(got) || seen.sharesExpander(impl.LoadBase()) {
		t.Error("the results of LoadBase share memory")
	}
}
