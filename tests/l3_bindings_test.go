package tests

import (
	"fmt"
	"math"
	"slices"
	"strings"
	"testing"

	"loop.example/macroexpander/impl"
)

func bind(name string, id int, scopes ...int) impl.Bind {
	return impl.Bind{Name: name, Scopes: scopes, Id: id}
}

// bindAll returns bindings of the names with these texts, to 1, 2, and so on.
func bindAll(t *testing.T, texts ...string) []impl.Bind {
	t.Helper()
	var list []impl.Bind
	for i, text := range texts {
		longer, ok := impl.AddBind(list, parse(t, text), i+1)
		if !ok {
			t.Fatalf("AddBind of %s returns false", text)
		}
		list = longer
	}
	return list
}

// manyBinds returns so many bindings of x, each with one scope of its own.
func manyBinds(n int) []impl.Bind {
	var list []impl.Bind
	for i := range n {
		list = append(list, bind("x", i+1, i+1))
	}
	return list
}

func bindsSame(a []impl.Bind, b []impl.Bind) bool {
	return slices.EqualFunc(a, b, func(x impl.Bind, y impl.Bind) bool {
		return x.Name == y.Name && x.Id == y.Id && slices.Equal(x.Scopes, y.Scopes)
	})
}

func invalidBinds() map[string][]impl.Bind {
	return map[string][]impl.Bind{
		"the zero value":         {{}},
		"no name":                {bind("", 1)},
		"a bad name":             {bind("X", 1)},
		"a long name":            {bind("abcdefghijklm", 1)},
		"Id 0":                   {bind("x", 0)},
		"Id -1":                  {bind("x", -1)},
		"Id 1000":                {bind("x", 1000)},
		"the greatest Id":        {bind("x", math.MaxInt)},
		"scope 0":                {bind("x", 1, 0)},
		"scope -1":               {bind("x", 1, -1, 1)},
		"scope 100":              {bind("x", 1, 100)},
		"a scope twice":          {bind("x", 1, 2, 2)},
		"descending scopes":      {bind("x", 1, 2, 1)},
		"25 scopes":              {bind("x", 1, scopesUpTo(25)...)},
		"a name twice":           {bind("x", 1), bind("x", 2)},
		"a binding twice":        {bind("x", 1), bind("y", 3), bind("x", 1)},
		"nil and empty scopes":   {bind("x", 1), {Name: "x", Scopes: []int{}, Id: 2}},
		"the same scopes twice":  {bind("x", 1, 1, 2), bind("x", 2, 1), bind("x", 3, 1, 2)},
		"a bad one among others": {bind("x", 1), bind("x", 0, 1), bind("y", 2)},
		"a bad one at the end":   {bind("x", 1), bind("y", 2), bind("z", 1000)},
		"61 bindings":            manyBinds(61),
		"many bindings":          make([]impl.Bind, 100000),
	}
}

// noNames returns forms that are no valid KindName.
func noNames() map[string]impl.Form {
	forms := invalidForms()
	forms["a number"] = numForm(5)
	forms["an empty list"] = listForm()
	forms["a list of a name"] = listForm(nameForm("x"))
	return forms
}

func TestBindsValid(t *testing.T) {
	valid := map[string][]impl.Bind{
		"nil":                     nil,
		"no binding":              {},
		"one":                     {bind("x", 1)},
		"Id 999":                  {bind("x", 999)},
		"24 scopes":               {bind("x", 1, scopesUpTo(24)...)},
		"scope 99":                {bind("x", 1, 1, 99)},
		"dots and a line":         {bind("...", 1), bind("_", 2, 3)},
		"the longest name":        {bind("abcdefghijkl", 1)},
		"one Id for two":          {bind("x", 7), bind("y", 7), bind("x", 7, 1)},
		"two names, same scopes":  {bind("x", 1, 2), bind("y", 2, 2)},
		"one name, other scopes":  {bind("x", 1), bind("x", 2, 1), bind("x", 3, 2), bind("x", 4, 1, 2)},
		"Ids in descending order": {bind("x", 3), bind("y", 2), bind("z", 1)},
		"60 bindings":             manyBinds(60),
	}
	for name, list := range valid {
		if !impl.BindsValid(list) {
			t.Errorf("BindsValid is false for %s", name)
		}
	}
	for name, list := range invalidBinds() {
		if impl.BindsValid(list) {
			t.Errorf("BindsValid is true for %s", name)
		}
	}
}

func TestAddBind(t *testing.T) {
	list := bindAll(t, "x", "x{1}", "y{1,99}", "_", "...{3}")
	want := []impl.Bind{bind("x", 1), bind("x", 2, 1), bind("y", 3, 1, 99), bind("_", 4), bind("...", 5, 3)}
	if !bindsSame(list, want) {
		t.Errorf("AddBind makes %v", list)
	}
	for _, id := range []int{1, 5, 999} {
		longer, ok := impl.AddBind(list, nameForm("z", 2), id)
		if !ok || !bindsSame(longer, append(slices.Clone(want), bind("z", id, 2))) {
			t.Errorf("AddBind of %d makes %v, %v", id, longer, ok)
		}
	}
	if longer, ok := impl.AddBind(manyBinds(59), nameForm("x"), 1); !ok || len(longer) != 60 {
		t.Errorf("AddBind of a 60th binding makes %v, %v", longer, ok)
	}
}

func TestAddBindRefuses(t *testing.T) {
	refuse := func(what string, list []impl.Bind, name impl.Form, id int) {
		t.Helper()
		if longer, ok := impl.AddBind(list, name, id); ok || len(longer) != 0 {
			t.Errorf("AddBind of %s makes %v, %v", what, longer, ok)
		}
	}
	for what, list := range invalidBinds() {
		refuse("a name to "+what, list, nameForm("q"), 1)
	}
	for what, name := range noNames() {
		refuse(what, nil, name, 1)
		refuse(what, bindAll(t, "x", "y{1}"), name, 1)
	}
	for _, id := range []int{0, -1, 1000, math.MaxInt, math.MinInt} {
		refuse("a bad Id", bindAll(t, "x"), nameForm("y"), id)
	}
	for _, text := range []string{"x", "x{1}", "y{1,2}"} {
		refuse(text+", which is bound", bindAll(t, "x", "x{1}", "y{1,2}"), parse(t, text), 9)
	}
	refuse("a 61st binding", manyBinds(60), nameForm("q"), 1)
}

// found is what the functions tell of a name with some bindings.
type found struct {
	id, end         int
	fitting, hidden []int
}

func lookedUp(list []impl.Bind, name impl.Form) found {
	id, end := impl.FindName(list, name)
	return found{id, end, impl.FittingBinds(list, name), impl.HiddenBinds(list, name)}
}

func (f found) same(g found) bool {
	return f.id == g.id && f.end == g.end && slices.Equal(f.fitting, g.fitting) && slices.Equal(f.hidden, g.hidden)
}

func TestFindName(t *testing.T) {
	cases := []struct {
		binds string
		name  string
		want  found
	}{
		{"(x x{1} x{2})", "x", found{1, impl.FindOne, []int{0}, nil}},
		{"(x x{1} x{2})", "x{1,4}", found{2, impl.FindOne, []int{0, 1}, []int{0}}},
		{"(x x{1} x{2})", "x{2}", found{3, impl.FindOne, []int{0, 2}, []int{0}}},
		{"(x x{1} x{2})", "x{1,2}", found{0, impl.FindMany, []int{0, 1, 2}, nil}},
		{"(x x{1} x{2})", "x{3,99}", found{1, impl.FindOne, []int{0}, nil}},
		{"(x x{1} x{2})", "y", found{0, impl.FindNone, nil, nil}},
		{"(x x{1} x{2})", "y{1,2}", found{0, impl.FindNone, nil, nil}},
		{"()", "x", found{0, impl.FindNone, nil, nil}},
		{"()", "x{1}", found{0, impl.FindNone, nil, nil}},
		{"(x{1})", "x", found{0, impl.FindNone, nil, nil}},
		{"(x{1})", "x{2}", found{0, impl.FindNone, nil, nil}},
		{"(x{1,2})", "x{1}", found{0, impl.FindNone, nil, nil}},
		{"(x{1,2})", "x{1,2}", found{1, impl.FindOne, []int{0}, nil}},
		// A third one has the scopes of two bindings of which none is within the other one.
		{"(x{1} x{2} x{1,2})", "x{1,2}", found{3, impl.FindOne, []int{0, 1, 2}, []int{0, 1}}},
		{"(x{1,2} x{2} x{1})", "x{1,2,3}", found{1, impl.FindOne, []int{0, 1, 2}, []int{1, 2}}},
		{"(x{1} x{1,2} x{2})", "x{1,2}", found{2, impl.FindOne, []int{0, 1, 2}, []int{0, 2}}},
		// The one with the most scopes does not have those of all others.
		{"(x{1,2} x{3})", "x{1,2,3}", found{0, impl.FindMany, []int{0, 1}, nil}},
		{"(x{3} x{1,2})", "x{1,2,3}", found{0, impl.FindMany, []int{0, 1}, nil}},
		{"(x{1,2,3} x{4} x x{1})", "x{1,2,3,4}", found{0, impl.FindMany, []int{0, 1, 2, 3}, nil}},
		{"(x{1,2} x{2,3})", "x{1,2,3}", found{0, impl.FindMany, []int{0, 1}, nil}},
		{"(x{1,2} x{2,3})", "x{1,2}", found{1, impl.FindOne, []int{0}, nil}},
		// Other names do not count.
		{"(y{1,2} x{1} y{2} y)", "x{1,2}", found{2, impl.FindOne, []int{1}, nil}},
		{"(x x{1} y x{1,2} z{1} x{1,2,3})", "x{1,2,3}", found{6, impl.FindOne, []int{0, 1, 3, 5}, []int{0, 1, 3}}},
		{"(x{1,2,3} x{1,2} x{1} x)", "x{1,2,3}", found{1, impl.FindOne, []int{0, 1, 2, 3}, []int{1, 2, 3}}},
		{"(... _{1})", "...{5}", found{1, impl.FindOne, []int{0}, nil}},
		{"(... _{1})", "_{1}", found{2, impl.FindOne, []int{1}, nil}},
		{"(... _{1})", "_", found{0, impl.FindNone, nil, nil}},
	}
	for _, c := range cases {
		var texts []string
		for _, name := range parse(t, c.binds).Kids {
			texts = append(texts, impl.FormatForm(name))
		}
		if got := lookedUp(bindAll(t, texts...), parse(t, c.name)); !got.same(c.want) {
			t.Errorf("%s with the bindings %s is %v, want %v", c.name, c.binds, got, c.want)
		}
	}
}

// scopesOfBits returns the scopes that a number has as its bits.
func scopesOfBits(bits int) []int {
	var scopes []int
	for i := range 3 {
		if bits>>i&1 == 1 {
			scopes = append(scopes, []int{1, 50, 99}[i])
		}
	}
	return scopes
}

// foundByBits tells by its own means what is bound, where sets holds the scopes of each binding as bits.
func foundByBits(sets []int, ids []int, name int) found {
	want := found{}
	all := 0
	for place, set := range sets {
		if set&^name == 0 {
			want.fitting = append(want.fitting, place)
			all |= set
		}
	}
	if len(want.fitting) > 0 {
		want.end = impl.FindMany
	}
	for _, place := range want.fitting {
		if sets[place] == all {
			want.id, want.end = ids[place], impl.FindOne
			want.hidden = slices.DeleteFunc(slices.Clone(want.fitting), func(other int) bool { return other == place })
		}
	}
	return want
}

func TestLookingUpWithAllBindingsOfThreeScopes(t *testing.T) {
	for chosen := range 256 {
		var sets []int
		for bits := range 8 {
			if chosen>>bits&1 == 1 {
				sets = append(sets, bits)
			}
		}
		for _, turn := range []func([]int){func([]int) {}, slices.Reverse[[]int]} {
			turn(sets)
			checkAllNames(t, sets)
		}
	}
}

func checkAllNames(t *testing.T, sets []int) {
	t.Helper()
	var list []impl.Bind
	var ids []int
	for i, bits := range sets {
		ids = append(ids, 999-i)
		list = append(list, bind("x", 999-i, scopesOfBits(bits)...))
	}
	// What binds another name has no place among those of x, and fits no x.
	list = append(list, bind("y", 500, 1, 50, 99))
	for bits := range 8 {
		name := nameForm("x", scopesOfBits(bits)...)
		want := foundByBits(sets, ids, bits)
		if got := lookedUp(list, name); !got.same(want) {
			t.Fatalf("%s is %v, want %v, with the bindings\n%s", impl.FormatForm(name), got, want, impl.FormatBinds(list))
		}
	}
}

func TestLookingUpRefuses(t *testing.T) {
	for what, list := range invalidBinds() {
		for _, text := range []string{"x", "x{1}", "x{1,2}", "y", "q"} {
			if got := lookedUp(list, parse(t, text)); !got.same(found{}) {
				t.Errorf("%s with %s is %v", text, what, got)
			}
		}
	}
	list := bindAll(t, "x", "x{1}", "x{2}", "y{1}")
	for what, name := range noNames() {
		if got := lookedUp(list, name); !got.same(found{}) {
			t.Errorf("%s is %v", what, got)
		}
	}
}

func TestLookingUpAtTheLimits(t *testing.T) {
	for place, id := range map[int]int{0: 1, 59: 60} {
		want := found{id, impl.FindOne, []int{place}, nil}
		if got := lookedUp(manyBinds(60), nameForm("x", place+1)); !got.same(want) {
			t.Errorf("with 60 bindings, x{%d} is %v", place+1, got)
		}
	}
	var chain []impl.Bind
	for n := range 25 {
		chain = append(chain, bind("x", n+1, scopesUpTo(n)...))
	}
	want := found{25, impl.FindOne, append([]int{0}, scopesUpTo(24)...), append([]int{0}, scopesUpTo(23)...)}
	if got := lookedUp(chain, nameForm("x", scopesUpTo(24)...)); !got.same(want) {
		t.Errorf("with a chain of bindings, x with 24 scopes is %v", got)
	}
	var cross []impl.Bind
	for scope := range 24 {
		cross = append(cross, bind("x", 9, scope+1))
	}
	if id, end := impl.FindName(cross, nameForm("x", scopesUpTo(24)...)); id != 0 || end != impl.FindMany {
		t.Errorf("with bindings to the same Id of which none is within another one, FindName = %d, %d", id, end)
	}
}

func TestSameReference(t *testing.T) {
	list := []impl.Bind{bind("x", 1), bind("x", 2, 1), bind("x", 3, 2), bind("y", 2), bind("z", 1, 5)}
	// Names in one group stand for the same, and for nothing else.
	groups := [][]string{
		{"x", "x{3}", "x{4,5}", "z{5}", "z{1,5}"},
		{"x{1}", "x{1,3}", "y", "y{1}", "y{2,9}"},
		{"x{2}", "x{2,4}"},
		{"z", "z{1}", "z{4,6}"},
		{"q", "q{1}", "q{1,2}"},
		{"_", "_{7}"},
		{"..."},
	}
	for i, group := range groups {
		for j, other := range groups {
			for _, a := range group {
				for _, b := range other {
					if got := impl.SameReference(list, parse(t, a), parse(t, b)); got != (i == j) {
						t.Errorf("SameReference of %s and %s is %v", a, b, got)
					}
				}
			}
		}
	}
	// A name with several bindings is not even the same as itself.
	ambiguous := nameForm("x", 1, 2)
	for _, text := range []string{"x{1,2}", "x{1,2,3}", "x", "x{1}", "y", "q", "z"} {
		if impl.SameReference(list, ambiguous, parse(t, text)) || impl.SameReference(list, parse(t, text), ambiguous) {
			t.Errorf("SameReference of x{1,2} and %s is true", text)
		}
	}
	if !impl.SameReference(nil, nameForm("x"), nameForm("x", 1, 2)) || impl.SameReference(nil, nameForm("x"), nameForm("y")) {
		t.Error("SameReference is wrong without bindings")
	}
}

func TestSameReferenceRefuses(t *testing.T) {
	for what, list := range invalidBinds() {
		for _, text := range []string{"x", "q"} {
			if impl.SameReference(list, parse(t, text), parse(t, text)) {
				t.Errorf("SameReference of %s is true with %s", text, what)
			}
		}
	}
	for _, list := range [][]impl.Bind{nil, bindAll(t, "x", "y{1}")} {
		for what, f := range noNames() {
			for _, other := range []impl.Form{f, nameForm("x"), nameForm("q"), nameForm(f.Name)} {
				if impl.SameReference(list, f, other) || impl.SameReference(list, other, f) {
					t.Errorf("SameReference is true for %s", what)
				}
			}
		}
	}
}

func TestFormatBinds(t *testing.T) {
	texts := map[string][]impl.Bind{
		"":                                       nil,
		"x = 1\nx{1} = 2\nx{2} = 3\n":            {bind("x", 1), bind("x", 2, 1), bind("x", 3, 2)},
		"let* = 999\n...{1,20,99} = 10\n_ = 1\n": {bind("let*", 999), bind("...", 10, 1, 20, 99), bind("_", 1)},
		"b = 2\na = 2\n":                         {bind("b", 2), bind("a", 2)},
	}
	for want, list := range texts {
		if got := impl.FormatBinds(list); got != want {
			t.Errorf("FormatBinds = %q, want %q", got, want)
		}
	}
	for what, list := range invalidBinds() {
		if got := impl.FormatBinds(list); got != "" {
			t.Errorf("FormatBinds of %s = %q", what, got)
		}
	}
	lines := strings.SplitAfter(impl.FormatBinds(manyBinds(60)), "\n")
	if len(lines) != 61 || lines[59] != "x{60} = 60\n" || lines[60] != "" {
		t.Errorf("FormatBinds of 60 bindings = %q", lines)
	}
}

// roomyBinds returns bindings where every slice has unused capacity, in which there are further values.
func roomyBinds() []impl.Bind {
	scopes := []int{1, 2, 3, 4}
	list := []impl.Bind{bind("x", 1), bind("x", 2, 1), bind("x", 3, 1, 2), bind("beyond", 4, 7), bind("", 0)}
	list[0].Scopes = scopes[3:3]
	list[1].Scopes = scopes[:1]
	list[2].Scopes = scopes[:2]
	return list[:3]
}

// memoryOf returns a text of all memory of bindings, with their unused capacity.
func memoryOf(list []impl.Bind) string {
	var text strings.Builder
	for _, b := range list[:cap(list)] {
		fmt.Fprintln(&text, b, b.Scopes[:cap(b.Scopes)])
	}
	return text.String()
}

func spoilBinds(list []impl.Bind) {
	list = list[:cap(list)]
	for i := range list {
		spoil(impl.Form{Scopes: list[i].Scopes})
		list[i] = bind("spoilt", 777)
	}
}

func spoilPlaces(places []int) {
	spoil(impl.Form{Scopes: places})
}

func TestBindingsDoNotChangeArguments(t *testing.T) {
	list := roomyBinds()
	name := impl.Form{Kind: impl.KindName, Name: "x", Scopes: []int{1, 2, 9, 8}[:3]}
	before := memoryOf(list)
	impl.BindsValid(list)
	impl.AddBind(list, name, 9)
	lookedUp(list, name)
	impl.SameReference(list, name, nameForm("x"))
	impl.FormatBinds(list)
	if memoryOf(list) != before || !slices.Equal(name.Scopes[:4], []int{1, 2, 9, 8}) {
		t.Error("an argument, or memory beyond its length, is changed")
	}
}

func TestBindingResultsShareNoMemory(t *testing.T) {
	list := roomyBinds()
	name := nameForm("y", 5, 6)
	before := memoryOf(list)
	first, _ := impl.AddBind(list, name, 9)
	second, _ := impl.AddBind(list, name, 9)
	want := memoryOf(second)
	for i := range first {
		spoil(impl.Form{Scopes: first[i].Scopes})
		if later := first[i+1:]; !bindsSame(later, second[i+1:]) {
			t.Error("parts of what AddBind returns share memory")
		}
	}
	spoilBinds(first)
	if memoryOf(list) != before || !slices.Equal(name.Scopes, []int{5, 6}) || memoryOf(second) != want {
		t.Error("AddBind shares memory with an argument or another result")
	}
	x := nameForm("x", 1, 2)
	spoilPlaces(impl.FittingBinds(list, x))
	spoilPlaces(impl.HiddenBinds(list, x))
	expected := found{3, impl.FindOne, []int{0, 1, 2}, []int{0, 1}}
	if got := lookedUp(list, x); !got.same(expected) || memoryOf(list) != before || !slices.Equal(x.Scopes, []int{1, 2}) {
		t.Error("FittingBinds or HiddenBinds shares memory with an argument or another result")
	}
}

func TestBindingsKeepNoState(t *testing.T) {
	list := bindAll(t, "x", "x{1}", "x{2}")
	first := lookedUp(list, nameForm("x", 1, 4))
	for range 50 {
		lookedUp(list, nameForm("x", 1, 2))
		lookedUp(nil, nameForm("x", 1, 4))
		if again := lookedUp(list, nameForm("x", 1, 4)); !again.same(first) {
			t.Fatalf("x{1,4} is %v first, and %v then", first, again)
		}
	}
}
