package tests

import (
	"math/rand"
	"slices"
	"testing"

	"loop.example/macroexpander/impl"
)

// told is an expansion as the specification tells it, with what its steps are.
type told struct {
	x      impl.Expansion
	macros map[int]impl.Macro
	budget int
	steps  []impl.Step
}

// toldSteps returns the steps of an expansion and how it ends, and its core program and state if it ends well.
func toldSteps(f impl.Form, budget int) (e *told, c impl.Core, end int) {
	e = &told{x: impl.StartExpansion(), macros: map[int]impl.Macro{}, budget: budget}
	defer func() {
		if way, ok := recover().(ending); ok {
			c, end = impl.Core{}, int(way)
		}
	}()
	c = e.expand(f)
	require(impl.CoreValid(c), impl.ExpandSpent)
	return e, c, impl.ExpandOk
}

func (e *told) newScope() int {
	require(e.x.Scope < impl.MaxScope, impl.ExpandSpent)
	e.x.Scope++
	return e.x.Scope
}

func (e *told) meaning(name impl.Form) (int, int) {
	id, found := impl.FindName(e.x.Binds, name)
	require(found != impl.FindMany, impl.ExpandMany)
	switch _, isMacro := e.macros[id]; {
	case found == impl.FindNone:
		return impl.NameFree, 0
	case isMacro:
		return impl.NameMacro, id
	case id <= impl.FormMacros:
		return impl.NameForm, id
	}
	return impl.NameVar, id
}

func (e *told) expand(f impl.Form) impl.Core {
	switch f.Kind {
	case impl.KindNum:
		return number(f.N)
	case impl.KindName:
		kind, id := e.meaning(f)
		require(kind == impl.NameFree || kind == impl.NameVar, impl.ExpandUse)
		if kind == impl.NameFree {
			return free(f.Name)
		}
		return variable(id)
	}
	require(len(f.Kids) > 0, impl.ExpandForms)
	switch kind, id := e.meaning(f.Kids[0]); kind {
	case impl.NameForm:
		return e.coreForm(id, f.Kids[1:])
	case impl.NameMacro:
		return e.use(f, id)
	}
	return call(e.all(f.Kids)...)
}

func (e *told) all(forms []impl.Form) []impl.Core {
	var cores []impl.Core
	for _, f := range forms {
		cores = append(cores, e.expand(f))
	}
	return cores
}

func (e *told) use(f impl.Form, id int) impl.Core {
	require(e.x.Steps < e.budget, impl.ExpandSpent)
	scope := e.newScope()
	e.x.Steps++
	flipped, ok := impl.FlipScope(f, scope)
	require(ok, impl.ExpandSpent)
	m := e.macros[id]
	rule, matches := impl.FirstRule(e.x.Binds, m.Rules, m.Literals, flipped)
	require(matches, impl.ExpandRule)
	filled, ok := impl.ApplyRules(e.x.Binds, m.Rules, m.Literals, flipped)
	require(ok, impl.ExpandSpent)
	result, ok := impl.FlipScope(filled, scope)
	require(ok, impl.ExpandSpent)
	e.steps = append(e.steps, impl.Step{Id: id, Rule: rule, Scope: scope, Use: f, Result: result})
	return e.expand(result)
}

func (e *told) coreForm(number int, parts []impl.Form) impl.Core {
	sizes := map[int]int{impl.FormLambda: 2, impl.FormIf: 3, impl.FormQuote: 1, impl.FormLet: 2, impl.FormMacros: 2}
	require(len(parts) == sizes[number], impl.ExpandForms)
	switch number {
	case impl.FormQuote:
		return quote(impl.StripForm(parts[0]))
	case impl.FormIf:
		return choice(e.all(parts)...)
	}
	require(parts[0].Kind == impl.KindList, impl.ExpandForms)
	if number == impl.FormLambda {
		return e.function(parts[0].Kids, parts[1])
	}
	var names, others []impl.Form
	for _, part := range parts[0].Kids {
		require(len(part.Kids) == 2, impl.ExpandForms)
		names, others = append(names, part.Kids[0]), append(others, part.Kids[1])
	}
	if number == impl.FormLet {
		values := e.all(others)
		return call(append([]impl.Core{e.function(names, parts[1])}, values...)...)
	}
	return e.letSyntax(names, others, parts[1])
}

// within returns a form in a region with a further scope.
func (e *told) within(f impl.Form, scope int) impl.Form {
	g, ok := impl.AddScope(f, scope)
	require(ok, impl.ExpandSpent)
	return g
}

func (e *told) bind(name impl.Form) int {
	binds, ok := impl.AddBind(e.x.Binds, name, e.x.Id+1)
	require(ok || len(e.x.Binds) == impl.MaxBinds, impl.ExpandForms)
	require(ok, impl.ExpandSpent)
	e.x.Binds = binds
	e.x.Id++
	return e.x.Id
}

func (e *told) function(names []impl.Form, body impl.Form) impl.Core {
	requireNames(names)
	scope := e.newScope()
	var ids []int
	for _, name := range names {
		ids = append(ids, e.bind(e.within(name, scope)))
	}
	return function(e.expand(e.within(body, scope)), ids...)
}

func (e *told) letSyntax(names []impl.Form, described []impl.Form, body impl.Form) impl.Core {
	requireNames(names)
	scope := e.newScope()
	for i, name := range names {
		literals, rules, ok := impl.ParseRules(e.within(described[i], scope))
		require(ok, impl.ExpandForms)
		id := e.bind(e.within(name, scope))
		e.macros[id] = impl.Macro{Id: id, Literals: literals, Rules: rules}
	}
	return e.expand(e.within(body, scope))
}

// checkTold compares the steps of an expansion with those above, and returns their number and the end.
func checkTold(t *testing.T, f impl.Form, budget int) (int, int) {
	t.Helper()
	e, c, want := toldSteps(f, budget)
	steps, end := impl.TraceForm(f, budget)
	if got := stepLines(steps); got != stepLines(e.steps) || end != want {
		t.Errorf("with the budget %d, the steps of %s are\n%s%s\nwant\n%s%s", budget, impl.FormatForm(f), got, endNames[end],
			stepLines(e.steps), endNames[want])
	}
	if d, _ := impl.ExpandForm(f, budget); !impl.CoreSame(c, d) {
		t.Errorf("%s becomes %s, want %s", impl.FormatForm(f), impl.FormatCore(d), impl.FormatCore(c))
	}
	for _, s := range e.steps {
		checkIntroduced(t, s, e.macros[s.Id])
	}
	return len(steps), end
}

// checkIntroduced compares the names that a step adds with those of the template, which has no rows.
func checkIntroduced(t *testing.T, s impl.Step, m impl.Macro) {
	t.Helper()
	rule := m.Rules[s.Rule]
	isIn := func(names []impl.Form, name impl.Form) bool {
		return slices.ContainsFunc(names, func(other impl.Form) bool { return impl.FormSame(name, other) })
	}
	var want []impl.Form
	for _, name := range namesWithin(rule.Template) {
		isVariable := name.Name != "_" && isIn(namesWithin(rule.Pattern), name) && !isIn(m.Literals, name)
		added, _ := impl.AddScope(name, s.Scope)
		if !isVariable && !isIn(want, added) {
			want = append(want, added)
		}
	}
	if got := textOf(impl.IntroducedNames(s)); got != textOf(want) {
		t.Errorf("the step %sintroduces %s, want %s", stepLine(s), got, textOf(want))
	}
}

// namesWithin returns all names of f, with their scopes, in the order of the text.
func namesWithin(f impl.Form) []impl.Form {
	if f.Kind == impl.KindName {
		return []impl.Form{f}
	}
	var names []impl.Form
	for _, kid := range f.Kids {
		names = append(names, namesWithin(kid)...)
	}
	return names
}

// TestStepsOfManyPrograms compares the steps of made-up programs with what the specification tells of them.
func TestStepsOfManyPrograms(t *testing.T) {
	p := &programs{rand.New(rand.NewSource(10))}
	n := names{[]string{"x", "y", "f", "if", "else", "let"}, []string{"x", "y", "f", "1"}}
	ends, steps := map[int]int{}, map[int]int{}
	for i := range 1600 {
		text := p.capturing()
		if i%4 == 0 {
			text = p.withMacros(3, n)
		}
		f, ok := impl.ParseForm(text)
		if !ok {
			continue
		}
		budget := 1 + p.Intn(14)
		count, end := checkTold(t, f, budget)
		ends[end]++
		steps[count]++
		if i%5 == 0 {
			traced(t, f, budget)
		}
	}
	for _, end := range []int{impl.ExpandOk, impl.ExpandForms, impl.ExpandSpent} {
		if ends[end] < 50 {
			t.Errorf("too few programs end in one way: %v", ends)
		}
	}
	for count := range 6 {
		if steps[count] < 20 {
			t.Errorf("too few programs have %d steps: %v", count, steps)
		}
	}
}
