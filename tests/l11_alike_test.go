package tests

import (
	"maps"
	"math/rand"
	"slices"
	"strings"
	"testing"

	"loop.example/macroexpander/impl"
)

// direct is an expansion without rules and scopes, in which the macros of the library are core forms.
type direct struct {
	lastId int
}

func directly(f impl.Form) (c impl.Core, end int) {
	defer func() {
		if e, ok := recover().(ending); ok {
			c, end = impl.Core{}, int(e)
		}
	}()
	var library *region
	for _, name := range libraryNames() {
		library = &region{name, meaning{kind: impl.NameMacro}, library}
	}
	c = new(direct).expand(f, library)
	require(impl.CoreValid(c), impl.ExpandSpent)
	return c, impl.ExpandOk
}

// meaningOf tells that what is no name is free, as nothing binds its empty Name.
func (d *direct) meaningOf(name string, env *region) meaning {
	return new(renaming).meaningOf(name, env)
}

func (d *direct) expand(f impl.Form, env *region) impl.Core {
	m := d.meaningOf(f.Name, env)
	switch f.Kind {
	case impl.KindNum:
		return number(f.N)
	case impl.KindName:
		require(m.kind == impl.NameFree || m.kind == impl.NameVar, impl.ExpandUse)
		if m.kind == impl.NameFree {
			return free(f.Name)
		}
		return variable(m.id)
	}
	require(len(f.Kids) > 0, impl.ExpandForms)
	parts := f.Kids[1:]
	switch head := d.meaningOf(f.Kids[0].Name, env); head.kind {
	case impl.NameForm:
		return d.coreForm(head.id, parts, env)
	case impl.NameMacro:
		return d.use(f.Kids[0].Name, parts, env)
	}
	return call(d.all(f.Kids, env)...)
}

func (d *direct) all(forms []impl.Form, env *region) []impl.Core {
	var cores []impl.Core
	for _, f := range forms {
		cores = append(cores, d.expand(f, env))
	}
	return cores
}

func (d *direct) newId() int {
	d.lastId++
	return d.lastId
}

func (d *direct) coreForm(number int, parts []impl.Form, env *region) impl.Core {
	sizes := map[int]int{impl.FormLambda: 2, impl.FormIf: 3, impl.FormQuote: 1, impl.FormLet: 2}
	require(len(parts) == sizes[number], impl.ExpandForms)
	switch number {
	case impl.FormIf:
		return choice(d.all(parts, env)...)
	case impl.FormQuote:
		return quote(parts[0])
	}
	require(parts[0].Kind == impl.KindList, impl.ExpandForms)
	if number == impl.FormLambda {
		return d.function(parts[0].Kids, parts[1], env)
	}
	return d.let(parts[0].Kids, parts[1], env)
}

func (d *direct) let(bindings []impl.Form, body impl.Form, env *region) impl.Core {
	var names, others []impl.Form
	for _, binding := range bindings {
		require(len(binding.Kids) == 2, impl.ExpandForms)
		names, others = append(names, binding.Kids[0]), append(others, binding.Kids[1])
	}
	values := d.all(others, env)
	return call(append([]impl.Core{d.function(names, body, env)}, values...)...)
}

func (d *direct) function(names []impl.Form, body impl.Form, env *region) impl.Core {
	requireBindable(names)
	var ids []int
	for _, name := range names {
		id := d.newId()
		ids = append(ids, id)
		env = &region{name.Name, meaning{kind: impl.NameVar, id: id}, env}
	}
	return function(d.expand(body, env), ids...)
}

func (d *direct) use(name string, parts []impl.Form, env *region) impl.Core {
	sizes := map[string]int{"not": 1, "when": 2, "let*": 2, "swap": 2}
	if size, ok := sizes[name]; ok {
		require(len(parts) == size, impl.ExpandRule)
	}
	switch name {
	case "and":
		return d.and(parts, env)
	case "or":
		return d.or(parts, env)
	case "cond":
		return d.cond(parts, env)
	case "let*":
		require(parts[0].Kind == impl.KindList, impl.ExpandRule)
		return d.letInOrder(parts[0].Kids, parts[1], env)
	case "not":
		return choice(d.expand(parts[0], env), number(0), number(1))
	case "when":
		return choice(append(d.all(parts, env), number(0))...)
	}
	first := d.expand(parts[0], env)
	id := d.newId()
	return call(function(call(free("list"), d.expand(parts[1], env), variable(id)), id), first)
}

func (d *direct) and(parts []impl.Form, env *region) impl.Core {
	switch len(parts) {
	case 0:
		return number(1)
	case 1:
		return d.expand(parts[0], env)
	}
	return choice(d.expand(parts[0], env), d.and(parts[1:], env), number(0))
}

func (d *direct) or(parts []impl.Form, env *region) impl.Core {
	switch len(parts) {
	case 0:
		return number(0)
	case 1:
		return d.expand(parts[0], env)
	}
	first := d.expand(parts[0], env)
	id := d.newId()
	return call(function(choice(variable(id), variable(id), d.or(parts[1:], env)), id), first)
}

func (d *direct) cond(parts []impl.Form, env *region) impl.Core {
	if len(parts) == 0 {
		return number(0)
	}
	require(len(parts[0].Kids) == 2, impl.ExpandRule)
	condition, chosen := parts[0].Kids[0], parts[0].Kids[1]
	if len(parts) == 1 && condition.Name == "else" && d.meaningOf("else", env).kind == impl.NameFree {
		return d.expand(chosen, env)
	}
	return choice(d.expand(condition, env), d.expand(chosen, env), d.cond(parts[1:], env))
}

func (d *direct) letInOrder(bindings []impl.Form, body impl.Form, env *region) impl.Core {
	if len(bindings) == 0 {
		return d.expand(body, env)
	}
	require(len(bindings[0].Kids) == 2, impl.ExpandRule)
	name, value := bindings[0].Kids[0], d.expand(bindings[0].Kids[1], env)
	requireNames([]impl.Form{name})
	id := d.newId()
	inner := &region{name.Name, meaning{kind: impl.NameVar, id: id}, env}
	return call(function(d.letInOrder(bindings[1:], body, inner), id), value)
}

// checkDirectly compares a program with the library with the same one without rules, and returns what RunForm tells of it.
func checkDirectly(t *testing.T, f impl.Form) string {
	t.Helper()
	got := ran(t, f, 60, 3000)
	// Without rules, there are neither steps nor scopes, of which there can be too few, and a form has fewer nodes.
	if got == "spent" || got == "bad" {
		return got
	}
	want, end := directly(f)
	program, _ := impl.WithLibrary(f)
	c, endWithLibrary := impl.ExpandForm(program, 60)
	if end != endWithLibrary || end == impl.ExpandOk && !impl.CoreAlike(c, want) {
		t.Errorf("with the library, %s becomes %s (%s), want %s (%s)", impl.FormatForm(f), impl.FormatCore(c), endNames[endWithLibrary],
			impl.FormatCore(want), endNames[end])
		return got
	}
	told := endNames[end]
	if v, last := impl.EvalCore(want, 3000); last == impl.EvalOk {
		told = impl.FormatValue(v)
	} else if end == impl.ExpandOk {
		told = "evaluation: " + evalEnds[last]
	}
	if got != told {
		t.Errorf("the value of %s is %s, want %s", impl.FormatForm(f), got, told)
	}
	return got
}

// libraryUses makes programs with macros of the library, from few names, of which many are in the rules of these.
type libraryUses struct {
	programs
	bound []string
	calls []string
}

// namesInRules are those that could be captured, or capture others.
var namesInRules = []string{"t", "tmp", "if", "let", "list", "else", "and", "or", "cond", "let*", "swap", "not", "a", "b", "c", "e", "r", "x", "v", "_", "..."}

func (u *libraryUses) chooseNames() {
	u.bound = nil
	for range 4 {
		u.bound = append(u.bound, u.oneOf(namesInRules))
	}
	u.bound = append(u.bound, u.oneOf([]string{"t", "tmp"}))
	u.calls = []string{"list", "list", "+", u.bound[0]}
}

// form returns the text of a form of at most so many levels, given the names that are bound around it.
func (u *libraryUses) form(levels int, around []string) string {
	inner := func() string { return u.form(levels-1, around) }
	if levels == 0 || u.Intn(9) == 0 {
		return u.atom(around)
	}
	name := u.oneOf(u.bound)
	inside := func() string { return u.form(levels-1, append(slices.Clone(around), name)) }
	switch u.Intn(17) {
	case 0, 1:
		return "(let ((" + name + " " + inner() + ")) " + inside() + ")"
	case 2:
		return "((lambda (" + name + ") " + inside() + ") " + inner() + ")"
	case 3, 4:
		second := u.oneOf(u.bound)
		return "(let* ((" + name + " " + inner() + ") (" + second + " " + inside() + ")) " + u.form(levels-1, append(slices.Clone(around), name, second)) + ")"
	case 5, 6, 7:
		return "(or" + u.some(inner) + ")"
	case 8:
		return "(and" + u.some(inner) + ")"
	case 9, 10:
		return "(swap " + inner() + " " + inner() + ")"
	case 11, 12:
		return "(cond (" + inner() + " " + inner() + ") (" + u.oneOf([]string{"else", "else", inner()}) + " " + inner() + "))"
	case 13:
		return "(" + u.oneOf([]string{"not", "and", "or"}) + " " + inner() + ")"
	case 14:
		return "(when " + inner() + " " + inner() + ")"
	case 15:
		return "(if " + inner() + " " + inner() + " " + inner() + ")"
	}
	return "(" + u.oneOf(u.calls) + u.some(inner) + ")"
}

func (u *libraryUses) some(inner func() string) string {
	var text strings.Builder
	for range u.Intn(4) {
		text.WriteString(" " + inner())
	}
	return text.String()
}

func (u *libraryUses) atom(around []string) string {
	switch u.Intn(12) {
	case 0, 1, 2:
		return "0"
	case 3:
		return u.oneOf([]string{"1", "2", "3"})
	case 4:
		return "(quote " + u.oneOf(namesInRules) + ")"
	case 5:
		return u.oneOf([]string{"(and)", "(or)", "(cond)", "()", "(not)", "list", "else", "t", "tmp", "swap"})
	}
	if len(around) == 0 {
		return "5"
	}
	return u.oneOf(around)
}

// TestLibraryInManyPrograms compares programs that use the library with the same ones without rules.
func TestLibraryInManyPrograms(t *testing.T) {
	u := &libraryUses{programs: programs{rand.New(rand.NewSource(11))}}
	told, captures := map[string]int{}, 0
	for range 1500 {
		u.chooseNames()
		// In the region of the library itself, a let* must not bind its own name.
		text := "(let ((" + u.bound[0] + " 4)) " + u.form(4, u.bound[:1]) + ")"
		f, ok := impl.ParseForm(text)
		if !ok {
			continue
		}
		got := checkDirectly(t, f)
		if got == "" || !slices.Contains(endNames, got) && !strings.HasPrefix(got, "evaluation") {
			got = "value"
		}
		told[got]++
		program, _ := impl.WithLibrary(f)
		if impl.Captures(program, 60) {
			captures++
		}
	}
	if told["value"] < 400 || told["use"] < 50 || told["rule"] < 50 || told["forms"] < 50 || told["evaluation: call"] < 50 ||
		told["evaluation: free"] < 50 || captures < 100 {
		t.Errorf("too few programs end in one way, or have names that could be captured: %v, %d", told, captures)
	}
}

// TestNamesDoNotMatterToTheLibrary chooses names for the variables of programs that use the library.
func TestNamesDoNotMatterToTheLibrary(t *testing.T) {
	for _, text := range []string{
		"(let ((A 7)) (or 0 A))",
		"(let ((A 0) (B 8)) (or A B 9))",
		"(lambda (A) (let ((B (or 0 A))) (or B (or 0 A B))))",
		"(let ((A 1) (B 2)) (swap A (swap B A)))",
		"(lambda (A B) (and A B A))",
		"(lambda (A B) (cond (A B) (B A) (else 5)))",
		"(lambda (A B) (cond ((not A) (when B A)) (else B)))",
		"(lambda (A) (let* ((B A) (A B) (B 1)) (swap A B)))",
		"(let* ((A 1) (B (+ A 1))) (or 0 (and A B)))",
		"(let* ((A 0)) (let ((B (or A 3))) (cond (A B) ((and B A) (swap A B)) (else (or A B)))))",
	} {
		checkNamesInUses(t, nameChoice{text: text})
	}
}

// checkNamesInUses tries all names for two letters, but for those that the program has itself.
func checkNamesInUses(t *testing.T, c nameChoice) {
	t.Helper()
	plain := map[rune]string{'A': "plain0", 'B': "plain1"}
	text, _ := c.named(plain)
	f := parse(t, text)
	want, end := directly(f)
	own := impl.NamesOf(f)
	tried := 0
	for _, first := range append([]string{"lambda", "quote", "let-syntax", "rules"}, namesInRules...) {
		for _, second := range append([]string{"plain1"}, namesInRules...) {
			names := maps.Clone(plain)
			names['A'], names['B'] = first, second
			if first == second || slices.Contains(own, first) || second != "plain1" && slices.Contains(own, second) {
				continue
			}
			tried++
			text, _ := c.named(names)
			program, ok := impl.WithLibrary(parse(t, text))
			got, endWithLibrary := impl.ExpandForm(program, 60)
			if !ok || end != impl.ExpandOk || endWithLibrary != end || !impl.CoreAlike(got, want) {
				t.Errorf("%s becomes %s, %s, want %s", text, impl.FormatCore(got), endNames[endWithLibrary], impl.FormatCore(want))
			}
		}
	}
	if tried < 200 {
		t.Errorf("only %d choices of names are tried for %s", tried, text)
	}
}
