package tests

import (
	"fmt"
	"math"
	"slices"
	"strings"
	"testing"

	"loop.example/macroexpander/impl"
)

const startBinds = "lambda = 1\nif = 2\nquote = 3\nlet = 4\nlet-syntax = 5\n"

func macrosText(macros []impl.Macro) string {
	var text strings.Builder
	for _, m := range macros {
		fmt.Fprintf(&text, "%d %s %s\n", m.Id, textOf(m.Literals), rulesText(m.Rules))
	}
	return text.String()
}

// stateText tells a state, with the bindings but for those of the beginning.
func stateText(x impl.Expansion) string {
	binds, _ := strings.CutPrefix(impl.FormatBinds(x.Binds), startBinds)
	return fmt.Sprintf("%s%sscope %d, id %d, steps %d", binds, macrosText(x.Macros), x.Scope, x.Id, x.Steps)
}

func TestStartExpansion(t *testing.T) {
	x := impl.StartExpansion()
	if got := impl.FormatBinds(x.Binds); got != startBinds {
		t.Errorf("the bindings are %q", got)
	}
	if got := stateText(x); got != "scope 0, id 10, steps 0" || !impl.ExpansionValid(x) {
		t.Errorf("StartExpansion = %s", got)
	}
	spoilBinds(x.Binds)
	if got := impl.FormatBinds(impl.StartExpansion().Binds); got != startBinds {
		t.Errorf("behind a change of another result, the bindings are %q", got)
	}
}

func TestExpandState(t *testing.T) {
	for text, want := range map[string]string{
		"5":                                "scope 0, id 10, steps 0",
		"(f x)":                            "scope 0, id 10, steps 0",
		"(quote (lambda (x) x))":           "scope 0, id 10, steps 0",
		"(lambda () 1)":                    "scope 1, id 10, steps 0",
		"(lambda (x y{7} z) x)":            "x{1} = 11\ny{1,7} = 12\nz{1} = 13\nscope 1, id 13, steps 0",
		"(lambda (x) (lambda (x) x))":      "x{1} = 11\nx{1,2} = 12\nscope 2, id 12, steps 0",
		"(f (lambda (x) x) (lambda () 1))": "x{1} = 11\nscope 2, id 11, steps 0",
		// What comes last is bound last: the values of let are in front of its names.
		"(let ((x (lambda (y) y)) (z 1)) (lambda (w) w))": "y{1} = 11\nx{2} = 12\nz{2} = 13\nw{2,3} = 14\nscope 3, id 14, steps 0",
		"(let-syntax () 1)": "scope 1, id 10, steps 0",
		"(let-syntax ((m (rules () ((_ a) (f a))))) 1)": "m{1} = 11\n" +
			"11 () (((_{1} a{1}) (f{1} a{1})))\nscope 1, id 11, steps 0",
		"(let-syntax ((m{3} (rules (l) ((_ l) 1))) (n (rules ()))) (lambda (x) 1))": "m{1,3} = 11\nn{1} = 12\nx{1,2} = 13\n" +
			"11 (l{1}) (((_{1} l{1}) 1))\n12 () ()\nscope 2, id 13, steps 0",
		// A use has a scope of its own, which its names have twice, and so not.
		"(let-syntax ((m (rules () ((_ a) (lambda (a x) 1))))) (m y))": "m{1} = 11\ny{1,3} = 12\nx{1,2,3} = 13\n" +
			"11 () (((_{1} a{1}) (lambda{1} (a{1} x{1}) 1)))\nscope 3, id 13, steps 1",
		"(let-syntax ((m (rules () ((_) 1) ((_ a b ...) (m b ...))))) (f (m x) (m)))": "m{1} = 11\n" +
			"11 () (((_{1}) 1) ((_{1} a{1} b{1} ...{1}) (m{1} b{1} ...{1})))\nscope 4, id 11, steps 3",
		"(let-syntax ((def (rules () ((_ n) (let-syntax ((n (rules () ((_) x)))) (n)))))) (def k))": "def{1} = 11\nk{1,3} = 12\n" +
			"11 () (((_{1} n{1}) (let-syntax{1} ((n{1} (rules{1} () ((_{1}) x{1})))) (n{1}))))\n" +
			"12 () (((_{1,2,3}) x{1,2,3}))\nscope 4, id 12, steps 2",
	} {
		x, end := impl.ExpandState(parse(t, text), 20)
		if got := stateText(x); end != impl.ExpandOk || got != want {
			t.Errorf("with the end %d, the state behind %s is\n%s\nwant\n%s", end, text, got, want)
		}
		expanded(t, parse(t, text), 20)
	}
}

// exampleState returns the state behind a program with two macros, three variables and all kinds of names.
func exampleState(t *testing.T) impl.Expansion {
	t.Helper()
	text := "(lambda (x if) (let-syntax ((m (rules (l) ((_ l (a b) ...) (a ... (b) ...)))) (n (rules ()))) (f (lambda (x{9}) 1) (lambda (x{8}) 1))))"
	x, end := impl.ExpandState(parse(t, text), 20)
	if end != impl.ExpandOk || len(x.Binds) != 11 || len(x.Macros) != 2 || x.Id != 16 || x.Scope != 4 {
		t.Fatalf("the state is %s", stateText(x))
	}
	return x
}

func TestMeaningOf(t *testing.T) {
	x := exampleState(t)
	for text, want := range map[string][2]int{
		"lambda": {impl.NameForm, 1}, "if": {impl.NameForm, 2}, "quote{1,2}": {impl.NameForm, 3}, "let{99}": {impl.NameForm, 4},
		"let-syntax": {impl.NameForm, 5}, "if{2}": {impl.NameForm, 2},
		"x{1}": {impl.NameVar, 11}, "x{1,2}": {impl.NameVar, 11}, "if{1}": {impl.NameVar, 12}, "if{1,7}": {impl.NameVar, 12},
		"m{1,2}": {impl.NameMacro, 13}, "n{1,2}": {impl.NameMacro, 14}, "m{1,2,3,4}": {impl.NameMacro, 13},
		"x{1,2,3,9}": {impl.NameVar, 15}, "x{1,2,4,8}": {impl.NameVar, 16}, "x{1,2,3,8}": {impl.NameVar, 11},
		"x{1,2,3,4,8,9}": {impl.NameMany, 0}, "x": {impl.NameFree, 0}, "x{2}": {impl.NameFree, 0}, "m": {impl.NameFree, 0},
		"m{1}": {impl.NameFree, 0}, "f": {impl.NameFree, 0}, "rules{1,2}": {impl.NameFree, 0}, "...": {impl.NameFree, 0},
		"5": {impl.NameFree, 0}, "()": {impl.NameFree, 0}, "(if)": {impl.NameFree, 0},
	} {
		if kind, id := impl.MeaningOf(x, parse(t, text)); [2]int{kind, id} != want {
			t.Errorf("MeaningOf %s = %d, %d, want %v", text, kind, id, want)
		}
	}
	for what, f := range noNames() {
		if kind, id := impl.MeaningOf(x, f); kind != impl.NameFree || id != 0 {
			t.Errorf("MeaningOf %s = %d, %d", what, kind, id)
		}
	}
}

func TestMeaningOfNumbers(t *testing.T) {
	// What is bound to a number of a core form, of a macro, or to another one stands for this, whatever its name.
	x := impl.Expansion{Id: 999, Macros: []impl.Macro{{Id: 11}, {Id: 999}}}
	kinds := map[int]int{1: impl.NameForm, 2: impl.NameForm, 3: impl.NameForm, 4: impl.NameForm, 5: impl.NameForm,
		11: impl.NameMacro, 12: impl.NameVar, 500: impl.NameVar, 998: impl.NameVar, 999: impl.NameMacro}
	for id, want := range kinds {
		x.Binds = []impl.Bind{bind("y", 12), bind("x", id)}
		if kind, got := impl.MeaningOf(x, nameForm("x", 3)); kind != want || got != id {
			t.Errorf("MeaningOf a name bound to %d = %d, %d", id, kind, got)
		}
	}
	if kind, id := impl.MeaningOf(impl.StartExpansion(), nameForm("if", 5)); kind != impl.NameForm || id != impl.FormIf {
		t.Errorf("MeaningOf if{5} at the beginning = %d, %d", kind, id)
	}
	if kind, id := impl.MeaningOf(impl.Expansion{Id: 10}, nameForm("if")); kind != impl.NameFree || id != 0 {
		t.Errorf("MeaningOf if without bindings = %d, %d", kind, id)
	}
}

// macrosWithIds returns so many macros, with the Ids from first on.
func macrosWithIds(n int, first int) []impl.Macro {
	var macros []impl.Macro
	for i := range n {
		macros = append(macros, impl.Macro{Id: first + i})
	}
	return macros
}

func TestExpansionValid(t *testing.T) {
	good := rulesOf(t, "(((_ a) a))")
	for what, change := range map[string]func(*impl.Expansion){
		"nothing":                          func(*impl.Expansion) {},
		"no bindings":                      func(x *impl.Expansion) { x.Binds = nil },
		"no macros":                        func(x *impl.Expansion) { x.Macros = nil },
		"scope 0":                          func(x *impl.Expansion) { x.Scope = 0 },
		"scope 99":                         func(x *impl.Expansion) { x.Scope = 99 },
		"Id 999":                           func(x *impl.Expansion) { x.Id = 999 },
		"steps 60":                         func(x *impl.Expansion) { x.Steps = 60 },
		"the beginning":                    func(x *impl.Expansion) { *x = impl.StartExpansion() },
		"Id 10 and nothing else":           func(x *impl.Expansion) { *x = impl.Expansion{Id: 10} },
		"60 bindings":                      func(x *impl.Expansion) { x.Id, x.Binds = 999, manyBinds(60); setIds(x.Binds, 11) },
		"all bound to a form":              func(x *impl.Expansion) { setIds(x.Binds, 5) },
		"all bound to Id":                  func(x *impl.Expansion) { setIds(x.Binds, x.Id) },
		"all bound to 11":                  func(x *impl.Expansion) { setIds(x.Binds, 11) },
		"all bound to a macro":             func(x *impl.Expansion) { setIds(x.Binds, x.Macros[0].Id) },
		"a macro with Id 11":               func(x *impl.Expansion) { x.Macros[0].Id = 11 },
		"a macro with the Id":              func(x *impl.Expansion) { x.Macros[1].Id = x.Id },
		"macros in another order":          func(x *impl.Expansion) { slices.Reverse(x.Macros) },
		"60 macros":                        func(x *impl.Expansion) { x.Id, x.Macros = 999, macrosWithIds(60, 940) },
		"9 rules":                          func(x *impl.Expansion) { x.Macros[1].Rules = slices.Repeat(good, 9) },
		"9 literals":                       func(x *impl.Expansion) { x.Macros[1].Literals = parseAll(t, "(a b c d e f g h i)") },
		"a bound scope above the last one": func(x *impl.Expansion) { x.Scope, x.Binds[0].Scopes = 0, []int{99} },
	} {
		x := exampleState(t)
		change(&x)
		if !impl.ExpansionValid(x) {
			t.Errorf("with %s, ExpansionValid is false", what)
		}
	}
}

func setIds(list []impl.Bind, id int) {
	for i := range list {
		list[i].Id = id
	}
}

// invalidStates returns states that differ in one respect from a valid one.
func invalidStates(t *testing.T) map[string]impl.Expansion {
	changes := map[string]func(*impl.Expansion){
		"scope -1":               func(x *impl.Expansion) { x.Scope = -1 },
		"scope 100":              func(x *impl.Expansion) { x.Scope = 100 },
		"the greatest scope":     func(x *impl.Expansion) { x.Scope = math.MaxInt },
		"Id 9":                   func(x *impl.Expansion) { *x = impl.Expansion{Id: 9} },
		"Id 0":                   func(x *impl.Expansion) { *x = impl.Expansion{} },
		"Id -1":                  func(x *impl.Expansion) { *x = impl.Expansion{Id: -1} },
		"Id 1000":                func(x *impl.Expansion) { x.Id = 1000 },
		"steps -1":               func(x *impl.Expansion) { x.Steps = -1 },
		"steps 61":               func(x *impl.Expansion) { x.Steps = 61 },
		"a binding above Id":     func(x *impl.Expansion) { x.Binds[7].Id = x.Id + 1 },
		"Id below a binding":     func(x *impl.Expansion) { x.Id-- },
		"Id below a macro":       func(x *impl.Expansion) { x.Binds, x.Id = nil, 13 },
		"Id below both":          func(x *impl.Expansion) { x.Id = 10 },
		"a macro with Id 10":     func(x *impl.Expansion) { x.Macros[0].Id = 10 },
		"a macro with Id 5":      func(x *impl.Expansion) { x.Macros[0].Id = 5 },
		"a macro with Id 0":      func(x *impl.Expansion) { x.Macros[1].Id = 0 },
		"a macro with Id -1":     func(x *impl.Expansion) { x.Macros[1].Id = -1 },
		"a macro above Id":       func(x *impl.Expansion) { x.Macros[1].Id = x.Id + 1 },
		"two macros with one Id": func(x *impl.Expansion) { x.Macros[1].Id = x.Macros[0].Id },
		"two of many with one Id": func(x *impl.Expansion) {
			x.Id, x.Macros = 999, macrosWithIds(60, 100)
			x.Macros[59].Id = 100
		},
		"61 macros":     func(x *impl.Expansion) { x.Id, x.Macros = 999, macrosWithIds(61, 100) },
		"many macros":   func(x *impl.Expansion) { x.Macros = make([]impl.Macro, 1000000) },
		"10 rules":      func(x *impl.Expansion) { x.Macros[1].Rules = slices.Repeat(rulesOf(t, "(((_) 1))"), 10) },
		"a bad literal": func(x *impl.Expansion) { x.Macros[1].Literals = parseAll(t, "(a ...)") },
	}
	for id := 6; id <= 10; id++ {
		changes[fmt.Sprint("a binding to ", id)] = func(x *impl.Expansion) { x.Binds[3].Id = id }
	}
	states := map[string]impl.Expansion{}
	for what, change := range changes {
		x := exampleState(t)
		change(&x)
		states[what] = x
	}
	for what, list := range invalidBinds() {
		x := exampleState(t)
		x.Id, x.Binds = 999, list
		states["bindings with "+what] = x
	}
	for what, bad := range badRules(t) {
		x := exampleState(t)
		x.Macros[1] = impl.Macro{Id: 14, Literals: bad.literals, Rules: []impl.Rule{bad.rule}}
		states["a macro with "+what] = x
	}
	return states
}

func TestInvalidStates(t *testing.T) {
	for what, x := range invalidStates(t) {
		if impl.ExpansionValid(x) {
			t.Errorf("with %s, ExpansionValid is true", what)
		}
		for _, text := range []string{"lambda", "x{1}", "m{1,2}", "x{1,2,3,4,8,9}", "f"} {
			if kind, id := impl.MeaningOf(x, parse(t, text)); kind != impl.NameFree || id != 0 {
				t.Errorf("with %s, MeaningOf %s = %d, %d", what, text, kind, id)
			}
		}
		for _, m := range append(slices.Clip(x.Macros[:min(2, len(x.Macros))]), impl.Macro{Id: 13}) {
			if found, ok := impl.FindMacro(x, m.Id); ok || !isZeroMacro(found) {
				t.Errorf("with %s, FindMacro = %v, %v", what, found, ok)
			}
		}
	}
}

func isZeroMacro(m impl.Macro) bool {
	return m.Id == 0 && len(m.Literals) == 0 && len(m.Rules) == 0
}

func TestFindMacro(t *testing.T) {
	x := exampleState(t)
	for id, want := range map[int]string{
		13: "13 (l{1,2}) (((_{1,2} l{1,2} (a{1,2} b{1,2}) ...{1,2}) (a{1,2} ...{1,2} (b{1,2}) ...{1,2})))\n",
		14: "14 () ()\n",
	} {
		m, ok := impl.FindMacro(x, id)
		if got := macrosText([]impl.Macro{m}); !ok || got != want {
			t.Errorf("FindMacro of %d = %s, %v", id, got, ok)
		}
	}
	for _, id := range []int{0, 1, 5, 10, 11, 12, 15, 16, 17, 999, 1000, -1, math.MaxInt, math.MinInt} {
		if m, ok := impl.FindMacro(x, id); ok || !isZeroMacro(m) {
			t.Errorf("FindMacro of %d = %v, %v", id, m, ok)
		}
	}
	// A macro needs no binding, nor a rule.
	if m, ok := impl.FindMacro(impl.Expansion{Id: 11, Macros: macrosWithIds(1, 11)}, 11); !ok || m.Id != 11 {
		t.Errorf("FindMacro of a macro without a binding = %v, %v", m, ok)
	}
}

func memoryOfMacros(macros []impl.Macro) string {
	var text strings.Builder
	for _, m := range macros[:cap(macros)] {
		literals := m.Literals[:cap(m.Literals)]
		fmt.Fprintln(&text, m.Id, len(m.Literals), memoryOfForm(listForm(literals...)), memoryOfRules(m.Rules))
	}
	return text.String()
}

func memoryOfState(x impl.Expansion) string {
	return fmt.Sprint(memoryOf(x.Binds), len(x.Binds), memoryOfMacros(x.Macros), len(x.Macros), x.Scope, x.Id, x.Steps)
}

func spoilMacro(m impl.Macro) {
	spoilForms(m.Literals)
	spoilRules(m.Rules)
}

func spoilMacros(macros []impl.Macro) {
	macros = macros[:cap(macros)]
	for i := range macros {
		spoilMacro(macros[i])
		macros[i] = impl.Macro{Id: 777}
	}
}

// roomyState returns a state where every slice has unused capacity, in which there are further values.
func roomyState(t *testing.T) impl.Expansion {
	x := exampleState(t)
	x.Binds = append(x.Binds, bind("beyond", 0))[:len(x.Binds)]
	for i := range x.Binds {
		x.Binds[i].Scopes = append(x.Binds[i].Scopes, 77)[:len(x.Binds[i].Scopes)]
	}
	for i, m := range x.Macros {
		for j, rule := range m.Rules {
			m.Rules[j] = impl.Rule{Pattern: roomyCopy(rule.Pattern), Template: roomyCopy(rule.Template)}
		}
		m.Literals = roomyCopy(listForm(m.Literals...)).Kids
		m.Rules = append(m.Rules, impl.Rule{Pattern: numForm(3)})[:len(m.Rules)]
		x.Macros[i] = m
	}
	x.Macros = append(x.Macros, impl.Macro{Id: 9})[:len(x.Macros)]
	return x
}

func TestStatesAreNotChanged(t *testing.T) {
	x := roomyState(t)
	before := memoryOfState(x)
	name := roomyCopy(nameForm("m", 1, 2))
	memoryOfName := memoryOfForm(name)
	kind, id := impl.MeaningOf(x, name)
	first, _ := impl.FindMacro(x, 13)
	again, ok := impl.FindMacro(x, 13)
	want := macrosText([]impl.Macro{again})
	if !impl.ExpansionValid(x) || kind != impl.NameMacro || id != 13 || !ok || macrosText([]impl.Macro{first}) != want {
		t.Fatalf("with memory beyond the lengths, the results are %d, %d, %v, %s", kind, id, ok, want)
	}
	for i := range first.Rules {
		spoil(first.Rules[i].Pattern)
		if impl.FormatForm(first.Rules[i].Template) != impl.FormatForm(again.Rules[i].Template) {
			t.Error("a template of FindMacro shares memory with a pattern")
		}
	}
	if textOf(first.Literals) != textOf(again.Literals) {
		t.Error("literals of FindMacro share memory with rules")
	}
	spoilMacro(first)
	if memoryOfState(x) != before || memoryOfForm(name) != memoryOfName || macrosText([]impl.Macro{again}) != want {
		t.Error("FindMacro shares memory with its argument or another result, or an argument is changed")
	}
}

func TestStatesShareNoMemory(t *testing.T) {
	f := roomyCopy(parse(t, "(lambda (x y{5}) (let-syntax ((m (rules (l{6}) ((_ a{7}) (lambda (a{7}) (z))))) (n (rules (p q)))) (m w)))"))
	before := memoryOfForm(f)
	first, _ := impl.ExpandState(f, 9)
	again, end := impl.ExpandState(f, 9)
	want := stateText(again)
	if end != impl.ExpandOk || stateText(first) != want || len(first.Macros) != 2 || memoryOfForm(f) != before {
		t.Fatalf("ExpandState = %s, %d, or changes its argument", want, end)
	}
	for i := range first.Binds {
		spoil(impl.Form{Scopes: first.Binds[i].Scopes})
		if !bindsSame(first.Binds[i+1:], again.Binds[i+1:]) {
			t.Error("bindings of a state share memory")
		}
	}
	spoilBinds(first.Binds)
	for i := range first.Macros {
		if macrosText(first.Macros[i:]) != macrosText(again.Macros[i:]) {
			t.Error("macros of a state share memory with each other, or with bindings")
		}
		spoilMacro(first.Macros[i])
	}
	spoilMacros(first.Macros)
	if memoryOfForm(f) != before || stateText(again) != want {
		t.Error("ExpandState shares memory with its argument or another result")
	}
}
