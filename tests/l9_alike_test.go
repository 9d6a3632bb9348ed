package tests

import (
	"fmt"
	"math/rand"
	"slices"
	"strings"
	"testing"

	"loop.example/macroexpander/impl"
)

// naiveState is a naive expansion as the specification tells it: with a list of bindings, which a body gives back.
type naiveState struct {
	binds  []impl.Bind
	macros map[int]impl.Macro
	id     int
	steps  int
	budget int
}

func naively(f impl.Form, budget int) (c impl.Core, end int) {
	start := impl.StartExpansion()
	n := &naiveState{start.Binds, map[int]impl.Macro{}, start.Id, 0, budget}
	defer func() {
		if e, ok := recover().(ending); ok {
			c, end = impl.Core{}, int(e)
		}
	}()
	c = n.expand(f)
	require(impl.CoreValid(c), impl.ExpandSpent)
	return c, impl.ExpandOk
}

func (n *naiveState) meaning(name impl.Form) (int, int) {
	id, found := impl.FindName(n.binds, name)
	if found == impl.FindNone {
		return impl.NameFree, 0
	}
	if _, ok := n.macros[id]; ok {
		return impl.NameMacro, id
	}
	if id <= impl.FormMacros {
		return impl.NameForm, id
	}
	return impl.NameVar, id
}

func (n *naiveState) bind(name string) int {
	n.id++
	n.binds = slices.DeleteFunc(slices.Clone(n.binds), func(b impl.Bind) bool { return b.Name == name })
	n.binds = append(n.binds, impl.Bind{Name: name, Id: n.id})
	require(len(n.binds) <= impl.MaxBinds, impl.ExpandSpent)
	return n.id
}

func (n *naiveState) expand(f impl.Form) impl.Core {
	switch f.Kind {
	case impl.KindNum:
		return number(f.N)
	case impl.KindName:
		kind, id := n.meaning(f)
		require(kind == impl.NameFree || kind == impl.NameVar, impl.ExpandUse)
		if kind == impl.NameVar {
			return variable(id)
		}
		return free(f.Name)
	}
	require(len(f.Kids) > 0, impl.ExpandForms)
	switch kind, id := n.meaning(f.Kids[0]); kind {
	case impl.NameForm:
		return n.coreForm(id, f.Kids[1:])
	case impl.NameMacro:
		require(n.steps < n.budget, impl.ExpandSpent)
		n.steps++
		m := n.macros[id]
		_, matches := impl.FirstRule(n.binds, m.Rules, m.Literals, f)
		require(matches, impl.ExpandRule)
		result, ok := impl.ApplyRules(n.binds, m.Rules, m.Literals, f)
		require(ok, impl.ExpandSpent)
		return n.expand(result)
	}
	return call(n.all(f.Kids)...)
}

func (n *naiveState) all(forms []impl.Form) []impl.Core {
	var cores []impl.Core
	for _, f := range forms {
		cores = append(cores, n.expand(f))
	}
	return cores
}

func (n *naiveState) coreForm(number int, parts []impl.Form) impl.Core {
	switch number {
	case impl.FormQuote:
		require(len(parts) == 1, impl.ExpandForms)
		return quote(parts[0])
	case impl.FormIf:
		require(len(parts) == 3, impl.ExpandForms)
		return choice(n.all(parts)...)
	}
	require(len(parts) == 2 && parts[0].Kind == impl.KindList, impl.ExpandForms)
	if number == impl.FormLambda {
		return n.function(parts[0].Kids, parts[1])
	}
	var names, others []impl.Form
	for _, part := range parts[0].Kids {
		require(len(part.Kids) == 2, impl.ExpandForms)
		names, others = append(names, part.Kids[0]), append(others, part.Kids[1])
	}
	if number == impl.FormLet {
		values := n.all(others)
		return call(append([]impl.Core{n.function(names, parts[1])}, values...)...)
	}
	return n.letSyntax(names, others, parts[1])
}

func requireBindable(names []impl.Form) {
	requireNames(names)
	for i := range names {
		requireApart(names, i)
	}
}

func (n *naiveState) function(names []impl.Form, body impl.Form) impl.Core {
	requireBindable(names)
	before := n.binds
	var ids []int
	for _, name := range names {
		ids = append(ids, n.bind(name.Name))
	}
	c := function(n.expand(body), ids...)
	n.binds = before
	return c
}

func (n *naiveState) letSyntax(names []impl.Form, described []impl.Form, body impl.Form) impl.Core {
	requireBindable(names)
	before := n.binds
	for i, name := range names {
		literals, rules, ok := impl.ParseRules(described[i])
		require(ok, impl.ExpandForms)
		id := n.bind(name.Name)
		n.macros[id] = impl.Macro{Id: id, Literals: literals, Rules: rules}
	}
	c := n.expand(body)
	n.binds = before
	return c
}

// checkNaively compares NaiveForm with the expansion above, and returns how it ends.
func checkNaively(t *testing.T, f impl.Form, budget int) int {
	t.Helper()
	c, end := impl.NaiveForm(f, budget)
	d, want := naively(f, budget)
	if end != want || !impl.CoreSame(c, d) {
		t.Errorf("with the budget %d, %s naively becomes %s (%s), want %s (%s)", budget, impl.FormatForm(f),
			impl.FormatCore(c), endNames[end], impl.FormatCore(d), endNames[want])
	}
	return end
}

// checkWithoutUses compares both expansions, which have no steps, and so end at the first use.
func checkWithoutUses(t *testing.T, f impl.Form) int {
	t.Helper()
	c, end := impl.ExpandForm(f, 0)
	d, naive := impl.NaiveForm(f, 0)
	if end != naive || end == impl.ExpandOk && !impl.CoreAlike(c, d) || impl.Captures(f, 0) {
		t.Errorf("%s becomes %s (%s), and naively %s (%s)", impl.FormatForm(f), impl.FormatCore(c), endNames[end],
			impl.FormatCore(d), endNames[naive])
	}
	return end
}

// withoutName returns f with another name in its rules, and whether it is there.
func withoutName(f impl.Form, name string, fresh string, inRules bool) (impl.Form, bool) {
	if inRules && f.Kind == impl.KindName && f.Name == name {
		return nameForm(fresh), true
	}
	inRules = inRules || len(f.Kids) > 0 && f.Kids[0].Kind == impl.KindName && f.Kids[0].Name == "rules"
	var kids []impl.Form
	changes := false
	for _, kid := range f.Kids {
		changed, there := withoutName(kid, name, fresh, inRules)
		kids, changes = append(kids, changed), changes || there
	}
	f.Kids = kids
	return f, changes
}

// capturedIn tells what is captured in f, as captureText does.
func capturedIn(f impl.Form, budget int) string {
	c, end := impl.ExpandForm(f, budget)
	d, naive := naively(f, budget)
	if end != impl.ExpandOk || naive != impl.ExpandOk || impl.CoreAlike(c, d) {
		return "no"
	}
	for _, name := range impl.NamesOf(f) {
		// A name that is not in rules changes nothing.
		if g, there := withoutName(f, name, impl.FreshName(f), false); there {
			if e, end := naively(g, budget); end == impl.ExpandOk && impl.CoreAlike(c, e) {
				return "yes " + name
			}
		}
	}
	return "yes"
}

// TestNaiveExpansionsOfManyPrograms compares naive expansions with those as the specification tells them.
func TestNaiveExpansionsOfManyPrograms(t *testing.T) {
	p := &programs{rand.New(rand.NewSource(9))}
	n := names{[]string{"x", "y", "f", "if", "else", "let"}, []string{"x", "y", "f", "1"}}
	ends := map[int]int{}
	for range 2500 {
		if f, ok := impl.ParseForm(p.withMacros(3, n)); ok {
			ends[checkNaively(t, f, 15)]++
			checkNaively(t, f, p.Intn(4))
		}
	}
	if ends[impl.ExpandOk] < 500 || ends[impl.ExpandForms] < 100 || ends[impl.ExpandSpent] < 100 || ends[impl.ExpandUse] < 30 {
		t.Errorf("too few programs end in one way: %v", ends)
	}
}

// simple returns the text of a form out of calls, binders and atoms, which has the shape that it must have.
func (p *programs) simple(levels int, bound []string, atoms []string, calls []string) string {
	inner := func() string { return p.simple(levels-1, bound, atoms, calls) }
	if levels == 0 {
		return p.oneOf(atoms)
	}
	switch p.Intn(6) {
	case 0:
		return p.oneOf(atoms)
	case 1:
		return "(lambda (" + p.oneOf(bound) + ") " + inner() + ")"
	case 2, 3:
		return "(let ((" + p.oneOf(bound) + " " + inner() + ")) " + inner() + ")"
	}
	return "(" + p.oneOf(calls) + " " + inner() + " " + inner() + ")"
}

// capturing returns the text of a program in which names of templates and of uses are often the same.
func (p *programs) capturing() string {
	bound, calls := []string{"x", "y", "t"}, []string{"f", "m", "n"}
	template := func(levels int) string {
		return p.simple(levels, bound, []string{"x", "y", "t", "a", "a", "b", "b"}, []string{"f", "n"})
	}
	return "(lambda (x y) (let-syntax ((m (rules () ((_ a b) " + template(2) + "))) " +
		"(n (rules (" + p.oneOf(bound) + ") ((_ " + p.oneOf(bound) + " b) (f b b)) ((_ a b) " +
		p.simple(2, bound, []string{"x", "y", "a", "b"}, []string{"f"}) + ")))) " +
		p.simple(3, bound, bound, calls) + "))"
}

// TestCapturesInManyPrograms compares what is captured with what the specification tells of it.
func TestCapturesInManyPrograms(t *testing.T) {
	p := &programs{rand.New(rand.NewSource(999))}
	captures, captured := map[string]int{}, map[string]int{}
	for range 1500 {
		f, ok := impl.ParseForm(p.capturing())
		if !ok {
			continue
		}
		checkNaively(t, f, 15)
		got := captureText(f, 15)
		if want := capturedIn(f, 15); got != want {
			t.Errorf("Captures of %s is %q, want %q", impl.FormatForm(f), got, want)
		}
		kind, name, _ := strings.Cut(got, " ")
		captures[kind]++
		captured[name]++
	}
	if captures["yes"] < 200 || captured["x"] < 20 || captured["y"] < 20 || captures["yes"]-captured["x"]-captured["y"] < 20 {
		t.Errorf("too few programs capture names: %v, %v", captures, captured)
	}
}

// TestExpansionsWithoutUsesAreAlike has programs with macros, in most of which there is no use of one.
func TestExpansionsWithoutUsesAreAlike(t *testing.T) {
	p := &programs{rand.New(rand.NewSource(99))}
	n := names{[]string{"x", "y", "f", "if", "let", "lambda", "m", "quote"}, []string{"x", "y", "f", "1", "(x y)", "(m2 x)"}}
	ends := map[int]int{}
	for i := range 4000 {
		text := p.form(3, n)
		if i%2 == 0 {
			text = strings.NewReplacer("(m ", "(y ", "(n ", "(f ").Replace(p.withMacros(2, n))
		}
		if f, ok := impl.ParseForm(text); ok {
			ends[checkWithoutUses(t, f)]++
			checkNaively(t, f, 0)
		}
	}
	if ends[impl.ExpandOk] < 1000 || ends[impl.ExpandForms] < 100 || ends[impl.ExpandSpent] < 20 || ends[impl.ExpandUse] < 20 {
		t.Errorf("too few programs end in one way: %v", ends)
	}
}

// formsOfSize returns all forms with so many nodes, out of these atoms.
func formsOfSize(nodes int, atoms []impl.Form, bySize [][]impl.Form) []impl.Form {
	if nodes == 1 {
		return append(slices.Clone(atoms), listForm())
	}
	var forms []impl.Form
	for first := 1; first < nodes; first++ {
		for _, kid := range bySize[first] {
			// What is left is a list of the other kids, with a node of its own.
			for _, rest := range bySize[nodes-first] {
				if rest.Kind == impl.KindList {
					forms = append(forms, listForm(append([]impl.Form{kid}, rest.Kids...)...))
				}
			}
		}
	}
	return forms
}

// TestAllShortFormsWithoutUses compares both expansions of all forms of up to 6 nodes, and of longer functions.
func TestAllShortFormsWithoutUses(t *testing.T) {
	atoms := []impl.Form{nameForm("x"), nameForm("lambda"), nameForm("let")}
	bySize := [][]impl.Form{nil}
	for nodes := 1; nodes <= 6; nodes++ {
		bySize = append(bySize, formsOfSize(nodes, atoms, bySize))
	}
	ends := map[int]int{}
	for _, forms := range bySize {
		for _, f := range forms {
			ends[checkWithoutUses(t, f)]++
			if len(f.Kids) == 2 && f.Kids[0].Kind == impl.KindList {
				g := listForm(nameForm("lambda"), f.Kids[0], f.Kids[1])
				ends[checkWithoutUses(t, g)]++
				checkNaively(t, g, 0)
			}
		}
	}
	if ends[impl.ExpandOk] < 150 || ends[impl.ExpandForms] < 1000 || ends[impl.ExpandUse] < 500 {
		t.Errorf("too few forms end in one way: %v", ends)
	}
}

// TestMacrosWithOwnNamesCaptureNothing has programs in which all that is bound has a name of its own.
func TestMacrosWithOwnNamesCaptureNothing(t *testing.T) {
	const program = "(let-syntax ((or (rules (L) ((_ L A) A) ((_ P Q ...) (let ((T P)) (if T T (or L (f Q ...)))))))) (lambda (X) (let ((Y X)) (or X Y (or L 2) W))))"
	letters := lettersIn(program)
	plain := map[rune]string{}
	for i, letter := range letters {
		plain[letter] = fmt.Sprint("plain", i)
	}
	choice := nameChoice{text: program}
	text, _ := choice.named(plain)
	checkCaptures(t, 20, []captureCase{{text, "no"}})
	// Names of which one hides the other are told apart by the expansion with scopes only.
	for pair, want := range map[string]string{
		"TX": "no", "TY": "yes T", "TW": "yes T", "LX": "yes L", "LY": "yes L", "PX": "no", "QY": "no", "AX": "no", "XY": "no", "LW": "no",
	} {
		names := map[rune]string{}
		for letter, name := range plain {
			names[letter] = name
		}
		names[rune(pair[1])] = names[rune(pair[0])]
		text, _ := choice.named(names)
		checkCaptures(t, 20, []captureCase{{text, strings.NewReplacer("T", names['T'], "L", names['L']).Replace(want)}})
	}
}
