package tests

import (
	"math"
	"slices"
	"testing"

	"loop.example/macroexpander/impl"
)

// scopeChange is a function that changes the scopes of names, with what it does to a name.
type scopeChange struct {
	name  string
	apply func(impl.Form, int) (impl.Form, bool)
	// has tells whether a name has the scope afterwards, given whether it had it.
	has func(bool) bool
}

func scopeChanges() []scopeChange {
	return []scopeChange{
		{"AddScope", impl.AddScope, func(bool) bool { return true }},
		{"FlipScope", impl.FlipScope, func(had bool) bool { return !had }},
		{"DropScope", impl.DropScope, func(bool) bool { return false }},
	}
}

func formText(f impl.Form, ok bool) string {
	if !ok {
		return "false"
	}
	return impl.FormatForm(f)
}

func TestScopeChanges(t *testing.T) {
	cases := []struct {
		text            string
		scope           int
		add, flip, drop string
	}{
		{"(x{1,2} y)", 2, "(x{1,2} y{2})", "(x{1} y{2})", "(x{1} y)"},
		{"(x{1,2} y (z{3} 5))", 2, "(x{1,2} y{2} (z{2,3} 5))", "(x{1} y{2} (z{2,3} 5))", "(x{1} y (z{3} 5))"},
		{"x", 1, "x{1}", "x{1}", "x"},
		{"x{1}", 1, "x{1}", "x", "x"},
		{"5", 1, "5", "5", "5"},
		{"()", 99, "()", "()", "()"},
		{"(1 () (2 (3)))", 7, "(1 () (2 (3)))", "(1 () (2 (3)))", "(1 () (2 (3)))"},
		{"(x{5} x x{4,6})", 5, "(x{5} x{5} x{4,5,6})", "(x x{5} x{4,5,6})", "(x x x{4,6})"},
		{"(... _{1} (x{2} ...))", 1, "(...{1} _{1} (x{1,2} ...{1}))", "(...{1} _ (x{1,2} ...{1}))", "(... _ (x{2} ...))"},
		{"(x{1,99} y{98})", 99, "(x{1,99} y{98,99})", "(x{1} y{98,99})", "(x{1} y{98})"},
		{"(x{99} y)", 1, "(x{1,99} y{1})", "(x{1,99} y{1})", "(x{99} y)"},
	}
	for _, c := range cases {
		f := parse(t, c.text)
		if got := formText(impl.AddScope(f, c.scope)); got != c.add {
			t.Errorf("AddScope(%s, %d) = %s, want %s", c.text, c.scope, got, c.add)
		}
		if got := formText(impl.FlipScope(f, c.scope)); got != c.flip {
			t.Errorf("FlipScope(%s, %d) = %s, want %s", c.text, c.scope, got, c.flip)
		}
		if got := formText(impl.DropScope(f, c.scope)); got != c.drop {
			t.Errorf("DropScope(%s, %d) = %s, want %s", c.text, c.scope, got, c.drop)
		}
	}
}

// dressedForms returns valid forms with many combinations of scopes.
func dressedForms() []impl.Form {
	forms := []impl.Form{
		listForm(nameForm("a", 1), listForm(nameForm("a", 2), nameForm("b", 1, 2)), nameForm("c"), numForm(3)),
		listForm(nameForm("a", 98), nameForm("b", 99), nameForm("c", 97, 98, 99), listForm()),
		listForm(nameForm("a", scopesUpTo(24)...), nameForm("b", scopesUpTo(23)...), nameForm("c", scopesUpTo(22)...)),
		nameForm("x", scopesUpTo(23)...),
	}
	for _, f := range validForms() {
		forms = append(forms, f)
	}
	for bits := range 32 {
		var scopes []int
		for i, scope := range []int{1, 2, 50, 98, 99} {
			if bits>>i&1 == 1 {
				scopes = append(scopes, scope)
			}
		}
		forms = append(forms, listForm(nameForm("x", scopes...), nameForm("y")))
	}
	return forms
}

// checkChanged reports whether g is f with the scope changed in each name, and in nothing else.
func checkChanged(f impl.Form, g impl.Form, scope int, has func(bool) bool) bool {
	if f.Kind != g.Kind || f.Name != g.Name || f.N != g.N || len(f.Kids) != len(g.Kids) {
		return false
	}
	for s := range impl.MaxScope + 1 {
		want := slices.Contains(f.Scopes, s)
		if s == scope && f.Kind == impl.KindName {
			want = has(want)
		}
		if slices.Contains(g.Scopes, s) != want {
			return false
		}
	}
	for i := range f.Kids {
		if !checkChanged(f.Kids[i], g.Kids[i], scope, has) {
			return false
		}
	}
	return true
}

// roomFor reports whether no name of f has too many scopes once the scope is changed.
func roomFor(f impl.Form, scope int, has func(bool) bool) bool {
	had := slices.Contains(f.Scopes, scope)
	if f.Kind == impl.KindName && len(f.Scopes) == impl.MaxScopes && !had && has(false) {
		return false
	}
	for _, kid := range f.Kids {
		if !roomFor(kid, scope, has) {
			return false
		}
	}
	return true
}

func TestScopeChangesOfManyForms(t *testing.T) {
	for _, f := range dressedForms() {
		for _, scope := range []int{1, 2, 3, 22, 23, 24, 25, 50, 98, 99} {
			for _, change := range scopeChanges() {
				g, ok := change.apply(f, scope)
				if ok != roomFor(f, scope, change.has) {
					t.Errorf("%s(%s, %d) returns %v", change.name, impl.FormatForm(f), scope, ok)
				} else if ok && (!impl.FormValid(g) || !checkChanged(f, g, scope, change.has)) {
					t.Errorf("%s(%s, %d) = %s", change.name, impl.FormatForm(f), scope, impl.FormatForm(g))
				} else if !ok && !isZero(g) {
					t.Errorf("%s(%s, %d) = %v, false", change.name, impl.FormatForm(f), scope, g)
				}
			}
		}
	}
}

func TestFlippingTwiceChangesNothing(t *testing.T) {
	for _, f := range dressedForms() {
		for scope := 1; scope <= impl.MaxScope; scope++ {
			once, ok := impl.FlipScope(f, scope)
			if !ok {
				continue
			}
			if twice, ok := impl.FlipScope(once, scope); !ok || !impl.FormSame(f, twice) {
				t.Errorf("flipping %d in %s twice makes %s", scope, impl.FormatForm(f), formText(twice, ok))
			}
			if len(impl.NamesOf(f)) > 0 && impl.FormSame(f, once) {
				t.Errorf("flipping %d in %s once changes nothing", scope, impl.FormatForm(f))
			}
		}
	}
}

func TestScopeChangesAtTheMostScopes(t *testing.T) {
	full := listForm(numForm(1), nameForm("x", scopesUpTo(24)...))
	for _, scope := range []int{1, 12, 24} {
		if f, ok := impl.AddScope(full, scope); !ok || !impl.FormSame(f, full) {
			t.Errorf("AddScope of scope %d, which is there, is %v, %v", scope, f, ok)
		}
		flipped, ok := impl.FlipScope(full, scope)
		dropped, alsoOk := impl.DropScope(full, scope)
		if !ok || !alsoOk || len(flipped.Kids[1].Scopes) != 23 || !impl.FormSame(flipped, dropped) {
			t.Errorf("flipping %d off is %v, dropping it %v", scope, flipped, dropped)
		}
	}
	if f, ok := impl.AddScope(full, 25); ok || !isZero(f) {
		t.Errorf("AddScope of a 25th scope is %v, %v", f, ok)
	}
	if f, ok := impl.FlipScope(full, 99); ok || !isZero(f) {
		t.Errorf("FlipScope of a 25th scope is %v, %v", f, ok)
	}
	if f, ok := impl.DropScope(full, 25); !ok || !impl.FormSame(f, full) {
		t.Errorf("DropScope of a scope that no name has is %v, %v", f, ok)
	}
}

func TestScopeChangesRefuse(t *testing.T) {
	for _, change := range scopeChanges() {
		for name, f := range invalidForms() {
			if g, ok := change.apply(f, 1); ok || !isZero(g) {
				t.Errorf("%s of %s = %v, %v", change.name, name, g, ok)
			}
		}
		// These would be valid with the scope taken off or added.
		for _, f := range []impl.Form{nameForm("x", 2, 1), nameForm("x", 1, 1), nameForm("x", scopesUpTo(25)...), {Kind: impl.KindNum, Scopes: []int{1}}} {
			if g, ok := change.apply(f, 1); ok || !isZero(g) {
				t.Errorf("%s of %v = %v, %v", change.name, f, g, ok)
			}
		}
		for _, scope := range []int{0, -1, 100, -99, math.MaxInt, math.MinInt} {
			for _, text := range []string{"x", "(x{1,99} y)", "5", "()"} {
				if g, ok := change.apply(parse(t, text), scope); ok || !isZero(g) {
					t.Errorf("%s(%s, %d) = %v, %v", change.name, text, scope, g, ok)
				}
			}
		}
	}
}

func TestScopesOf(t *testing.T) {
	sets := map[string][]int{
		"x":                         nil,
		"5":                         nil,
		"()":                        nil,
		"(1 (2 ()))":                nil,
		"(x y)":                     nil,
		"x{3}":                      {3},
		"(x{1,2} y (z{3} 5))":       {1, 2, 3},
		"(x{99} y{1} (z{50} w{1}))": {1, 50, 99},
		"(((x{7})) ...{2} _{2,9})":  {2, 7, 9},
	}
	for text, want := range sets {
		if got := impl.ScopesOf(parse(t, text)); !slices.Equal(got, want) {
			t.Errorf("ScopesOf %s = %v, want %v", text, got, want)
		}
	}
	every := listForm()
	for scope := impl.MaxScope; scope > 0; scope-- {
		every.Kids = append(every.Kids, nameForm("x", scope))
	}
	if got := impl.ScopesOf(every); !slices.Equal(got, scopesUpTo(99)) {
		t.Errorf("ScopesOf a form with every scope = %v", got)
	}
	for name, f := range invalidForms() {
		if got := impl.ScopesOf(f); len(got) != 0 {
			t.Errorf("ScopesOf %s = %v", name, got)
		}
		if got := impl.ScopesOf(listForm(nameForm("x", 1), f)); len(got) != 0 {
			t.Errorf("ScopesOf a list with %s = %v", name, got)
		}
	}
}

func TestScopesWithin(t *testing.T) {
	cases := []struct {
		a, b []int
		want bool
	}{
		{nil, nil, true},
		{nil, []int{1}, true},
		{[]int{1}, nil, false},
		{[]int{1}, []int{1, 2}, true},
		{[]int{1, 2}, []int{1, 2}, true},
		{[]int{1, 2, 3}, []int{1, 2}, false},
		{[]int{3}, []int{1, 2}, false},
		{[]int{1, 3}, []int{1, 2, 4}, false},
		{[]int{2, 1, 2, 1, 2}, []int{3, 2, 1}, true},
		{[]int{1}, []int{3, 1, 2}, true},
		{[]int{5}, []int{9, 5, 7, 5, 1}, true},
		{[]int{6}, []int{9, 5, 7, 5, 1}, false},
		{[]int{1, 1}, []int{1}, true},
		{[]int{-1, 0, 100}, []int{100, 0, -1}, true},
		{[]int{-1}, []int{1}, false},
		{[]int{math.MaxInt, math.MinInt}, []int{math.MinInt, 0, math.MaxInt}, true},
		{[]int{math.MinInt}, []int{math.MaxInt}, false},
	}
	for _, c := range cases {
		if got := impl.ScopesWithin(c.a, c.b); got != c.want {
			t.Errorf("ScopesWithin(%v, %v) = %v", c.a, c.b, got)
		}
	}
	long := scopesUpTo(200000)
	if !impl.ScopesWithin(long, long) || impl.ScopesWithin(append(long, 0), long) {
		t.Error("ScopesWithin is wrong for long lists")
	}
}

func TestSameName(t *testing.T) {
	texts := []string{"x", "y", "x{1}", "x{2}", "x{1,2}", "y{1}", "_", "...", "...{1}"}
	for _, a := range texts {
		for _, b := range texts {
			if got := impl.SameName(parse(t, a), parse(t, b)); got != (a == b) {
				t.Errorf("SameName(%s, %s) = %v", a, b, got)
			}
		}
		for _, other := range []string{"1", "()", "(x)"} {
			if impl.SameName(parse(t, a), parse(t, other)) || impl.SameName(parse(t, other), parse(t, a)) {
				t.Errorf("SameName is true for %s and %s", a, other)
			}
		}
	}
	for _, text := range []string{"1", "()", "(x)"} {
		if impl.SameName(parse(t, text), parse(t, text)) {
			t.Errorf("SameName is true for %s, which is no name", text)
		}
	}
	for name, f := range invalidForms() {
		if impl.SameName(f, f) || impl.SameName(f, nameForm("x")) || impl.SameName(nameForm("x"), f) {
			t.Errorf("SameName is true for %s", name)
		}
	}
	empty := impl.Form{Kind: impl.KindName, Name: "x", Scopes: []int{}, Kids: []impl.Form{}}
	if !impl.SameName(empty, nameForm("x")) || !impl.SameName(nameForm("x"), empty) {
		t.Error("nil and empty slices are equivalent")
	}
}

func TestDressLike(t *testing.T) {
	cases := []struct{ text, name, want string }{
		{"(x{1,2} y (z{3} 5))", "q{2,7}", "(x{1,2,7} y{2,7} (z{2,3,7} 5))"},
		{"x", "q", "x"},
		{"(x{3} y)", "q", "(x{3} y)"},
		{"x{1}", "x{1}", "x{1}"},
		{"x{2,4}", "q{1,3,5}", "x{1,2,3,4,5}"},
		{"(1 () (2))", "q{1,2}", "(1 () (2))"},
		{"(x _ ...)", "...{99}", "(x{99} _{99} ...{99})"},
		{"x", "_{1}", "x{1}"},
	}
	for _, c := range cases {
		if got := formText(impl.DressLike(parse(t, c.text), parse(t, c.name))); got != c.want {
			t.Errorf("DressLike(%s, %s) = %s, want %s", c.text, c.name, got, c.want)
		}
	}
	full := nameForm("q", scopesUpTo(24)...)
	if f, ok := impl.DressLike(listForm(nameForm("x", 1, 24), nameForm("y")), full); !ok || len(f.Kids[0].Scopes) != 24 || len(f.Kids[1].Scopes) != 24 {
		t.Errorf("DressLike with 24 scopes = %v, %v", f, ok)
	}
	if f, ok := impl.DressLike(listForm(nameForm("y"), nameForm("x", 25)), full); ok || !isZero(f) {
		t.Errorf("DressLike with a 25th scope = %v, %v", f, ok)
	}
	if f, ok := impl.DressLike(listForm(numForm(1)), full); !ok || impl.FormatForm(f) != "(1)" {
		t.Errorf("DressLike of a form without names = %v, %v", f, ok)
	}
}

func TestDressLikeRefuses(t *testing.T) {
	for name, f := range invalidForms() {
		if g, ok := impl.DressLike(f, nameForm("q", 1)); ok || !isZero(g) {
			t.Errorf("DressLike of %s = %v, %v", name, g, ok)
		}
		if g, ok := impl.DressLike(numForm(1), f); ok || !isZero(g) {
			t.Errorf("DressLike with %s as the name = %v, %v", name, g, ok)
		}
	}
	for _, text := range []string{"1", "()", "(q{1})"} {
		if g, ok := impl.DressLike(nameForm("x"), parse(t, text)); ok || !isZero(g) {
			t.Errorf("DressLike with %s as the name = %v, %v", text, g, ok)
		}
	}
}

// roomyForm returns a form in which every slice has unused capacity.
func roomyForm() impl.Form {
	scopes := func(list ...int) []int { return append(make([]int, 0, 40), list...) }
	kids := func(list ...impl.Form) []impl.Form { return append(make([]impl.Form, 0, 10), list...) }
	number := impl.Form{Kind: impl.KindNum, N: 5, Scopes: scopes(), Kids: kids()}
	empty := impl.Form{Kind: impl.KindList, Scopes: scopes(), Kids: kids()}
	x := impl.Form{Kind: impl.KindName, Name: "x", Scopes: scopes(1, 3), Kids: kids()}
	y := impl.Form{Kind: impl.KindName, Name: "y", Scopes: scopes(), Kids: kids()}
	return impl.Form{Kind: impl.KindList, Scopes: scopes(), Kids: kids(x, y, number, empty)}
}

// capacities returns all memory of the slices of f, with their unused capacity, in one list.
func capacities(f impl.Form) []int {
	all := slices.Clone(f.Scopes[:cap(f.Scopes)])
	for _, kid := range f.Kids[:cap(f.Kids)] {
		all = append(all, kid.Kind, kid.N, len(kid.Name), len(kid.Scopes), len(kid.Kids))
		all = append(all, capacities(kid)...)
	}
	return all
}

func scopeResults(t *testing.T, f impl.Form) map[string]impl.Form {
	t.Helper()
	results := map[string]impl.Form{}
	for _, change := range scopeChanges() {
		for _, scope := range []int{1, 2, 99} {
			g, ok := change.apply(f, scope)
			if !ok {
				t.Fatalf("%s(%s, %d) returns false", change.name, impl.FormatForm(f), scope)
			}
			results[change.name+" "+impl.FormatForm(numForm(scope))] = g
		}
	}
	for _, name := range []impl.Form{nameForm("q"), nameForm("q", 1, 3), nameForm("q", 2, 4)} {
		g, ok := impl.DressLike(f, name)
		if !ok {
			t.Fatalf("DressLike with %s returns false", impl.FormatForm(name))
		}
		results["DressLike "+impl.FormatForm(name)] = g
	}
	return results
}

func TestScopeResultsShareNoMemory(t *testing.T) {
	f := roomyForm()
	before := capacities(f)
	results := scopeResults(t, f)
	if !slices.Equal(capacities(f), before) {
		t.Error("an argument, or memory beyond its length, is changed")
	}
	texts := map[string]string{}
	for name, g := range results {
		texts[name] = impl.FormatForm(g)
	}
	for name, g := range results {
		if got := impl.FormatForm(g); got != texts[name] {
			t.Errorf("%s shares memory with another result", name)
		}
		for i := range g.Kids {
			later := impl.FormatForm(listForm(g.Kids[i+1:]...))
			spoil(g.Kids[i])
			if impl.FormatForm(listForm(g.Kids[i+1:]...)) != later {
				t.Errorf("parts of what %s returns share memory", name)
			}
		}
		spoil(g)
		if !slices.Equal(capacities(f), before) {
			t.Fatalf("%s shares memory with its argument", name)
		}
	}
}

func TestScopeListsShareNoMemory(t *testing.T) {
	f := nameForm("x", 1, 2)
	got := impl.ScopesOf(f)
	got = got[:cap(got)]
	for i := range got {
		got[i] = 77
	}
	if impl.FormatForm(f) != "x{1,2}" || !slices.Equal(impl.ScopesOf(f), []int{1, 2}) {
		t.Error("ScopesOf shares memory with its argument or another result")
	}
	name := nameForm("q", 3, 4)
	g, _ := impl.DressLike(nameForm("x"), name)
	spoil(g)
	if impl.FormatForm(name) != "q{3,4}" {
		t.Error("DressLike shares memory with the name")
	}
	a, b := []int{3, 1, 2, 9}, []int{2, 3, 1, 8}
	impl.ScopesWithin(a[:3], b[:3])
	if !slices.Equal(a, []int{3, 1, 2, 9}) || !slices.Equal(b, []int{2, 3, 1, 8}) {
		t.Error("ScopesWithin changes its arguments")
	}
}

func TestScopesOfFormsThatShareMemory(t *testing.T) {
	scopes := []int{1, 2}
	kids := []impl.Form{nameForm("x", scopes...), nameForm("y", scopes[:1]...)}
	f := listForm(listForm(kids...), listForm(kids...))
	g, ok := impl.FlipScope(f, 2)
	if !ok || impl.FormatForm(g) != "((x{1} y{1,2}) (x{1} y{1,2}))" {
		t.Errorf("flipping in parts that share memory makes %s", formText(g, ok))
	}
	spoil(g.Kids[0])
	if impl.FormatForm(g.Kids[1]) != "(x{1} y{1,2})" || impl.FormatForm(f) != "((x{1,2} y{1}) (x{1,2} y{1}))" {
		t.Error("the result shares memory, as its argument does")
	}
}
