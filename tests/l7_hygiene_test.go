package tests

import (
	"fmt"
	"maps"
	"math/rand"
	"slices"
	"strings"
	"testing"

	"loop.example/macroexpander/impl"
)

// alias is what a name of a template becomes in a renaming expansion: it stands for the name where its macro was.
type alias struct {
	name string
	env  *region
}

// region binds a name, in a region of a program within another one.
type region struct {
	name  string
	means meaning
	outer *region
}

// meaning is of the kinds of MeaningOf. A free name has its Name, and others have a number.
type meaning struct {
	kind  int
	id    int
	name  string
	macro *renamedMacro
}

type renamedMacro struct {
	literals []impl.Form
	rules    []impl.Rule
	env      *region
}

// renaming is an expansion without scopes: each name of a template gets a new name, an alias, in each step.
type renaming struct {
	aliases map[string]alias
	numbers map[string]int
	lastId  int
	steps   int
	budget  int
}

// ending is panicked with by a renaming expansion that ends in another way than with ExpandOk.
type ending int

func renamed(f impl.Form, budget int) (c impl.Core, end int) {
	r := &renaming{aliases: map[string]alias{}, numbers: map[string]int{}, lastId: 10, budget: budget}
	defer func() {
		if e, ok := recover().(ending); ok {
			c, end = impl.Core{}, int(e)
		}
	}()
	c = r.expand(f, nil)
	require(impl.CoreValid(c), impl.ExpandSpent)
	return c, impl.ExpandOk
}

// require ends the expansion unless a condition holds.
func require(holds bool, end int) {
	if !holds {
		panic(ending(end))
	}
}

func (r *renaming) meaningOf(name string, env *region) meaning {
	for e := env; e != nil; e = e.outer {
		if e.name == name {
			return e.means
		}
	}
	if a, ok := r.aliases[name]; ok {
		return r.meaningOf(a.name, a.env)
	}
	if i := slices.Index([]string{"lambda", "if", "quote", "let", "let-syntax"}, name); i >= 0 {
		return meaning{kind: impl.NameForm, id: i + 1}
	}
	return meaning{kind: impl.NameFree, name: name}
}

// withNames returns f with another name for each of its names.
func withNames(f impl.Form, change func(string) string) impl.Form {
	if f.Kind == impl.KindName {
		return nameForm(change(f.Name))
	}
	var kids []impl.Form
	for _, kid := range f.Kids {
		kids = append(kids, withNames(kid, change))
	}
	f.Kids = kids
	return f
}

// original returns the name for which a name stands if it is quoted.
func (r *renaming) original(name string) string {
	for a, ok := r.aliases[name]; ok; a, ok = r.aliases[name] {
		name = a.name
	}
	return name
}

func (r *renaming) expand(f impl.Form, env *region) impl.Core {
	switch {
	case f.Kind == impl.KindNum:
		return number(f.N)
	case f.Kind == impl.KindName:
		m := r.meaningOf(f.Name, env)
		require(m.kind == impl.NameFree || m.kind == impl.NameVar, impl.ExpandUse)
		if m.kind == impl.NameFree {
			return free(m.name)
		}
		return variable(m.id)
	}
	require(len(f.Kids) > 0, impl.ExpandForms)
	if f.Kids[0].Kind == impl.KindName {
		switch m := r.meaningOf(f.Kids[0].Name, env); m.kind {
		case impl.NameForm:
			return r.coreForm(m.id, f.Kids[1:], env)
		case impl.NameMacro:
			return r.use(f, m.macro, env)
		}
	}
	return call(r.all(f.Kids, env)...)
}

func (r *renaming) all(forms []impl.Form, env *region) []impl.Core {
	var cores []impl.Core
	for _, f := range forms {
		cores = append(cores, r.expand(f, env))
	}
	return cores
}

func (r *renaming) coreForm(number int, parts []impl.Form, env *region) impl.Core {
	sizes := map[int]int{impl.FormLambda: 2, impl.FormIf: 3, impl.FormQuote: 1, impl.FormLet: 2, impl.FormMacros: 2}
	require(len(parts) == sizes[number], impl.ExpandForms)
	switch number {
	case impl.FormIf:
		return choice(r.all(parts, env)...)
	case impl.FormQuote:
		return quote(withNames(parts[0], r.original))
	}
	require(parts[0].Kind == impl.KindList, impl.ExpandForms)
	var names, others []impl.Form
	for _, part := range parts[0].Kids {
		if number != impl.FormLambda {
			require(len(part.Kids) == 2, impl.ExpandForms)
			others = append(others, part.Kids[1])
			part = part.Kids[0]
		}
		names = append(names, part)
	}
	switch number {
	case impl.FormLambda:
		return r.function(names, parts[1], env)
	case impl.FormLet:
		values := r.all(others, env)
		return call(append([]impl.Core{r.function(names, parts[1], env)}, values...)...)
	}
	return r.letSyntax(names, others, parts[1], env)
}

// requireApart ends the expansion if the name with the index i is one of those in front of it.
func requireApart(names []impl.Form, i int) {
	for _, name := range names[:i] {
		require(name.Name != names[i].Name, impl.ExpandForms)
	}
}

func requireNames(forms []impl.Form) {
	for _, f := range forms {
		require(f.Kind == impl.KindName, impl.ExpandForms)
	}
}

func (r *renaming) function(names []impl.Form, body impl.Form, env *region) impl.Core {
	requireNames(names)
	var ids []int
	for i, name := range names {
		requireApart(names, i)
		r.lastId++
		ids = append(ids, r.lastId)
		env = &region{name.Name, meaning{kind: impl.NameVar, id: r.lastId}, env}
	}
	return function(r.expand(body, env), ids...)
}

func (r *renaming) letSyntax(names []impl.Form, described []impl.Form, body impl.Form, env *region) impl.Core {
	requireNames(names)
	var macros []*renamedMacro
	for i, name := range names {
		f := described[i]
		if len(f.Kids) > 0 && r.original(f.Kids[0].Name) == "rules" {
			f.Kids = slices.Clone(f.Kids)
			f.Kids[0] = nameForm("rules")
		}
		literals, rules, ok := impl.ParseRules(f)
		require(ok, impl.ExpandForms)
		requireApart(names, i)
		r.lastId++
		macros = append(macros, &renamedMacro{literals: literals, rules: rules})
		env = &region{name.Name, meaning{kind: impl.NameMacro, id: r.lastId, macro: macros[i]}, env}
	}
	for _, m := range macros {
		m.env = env
	}
	return r.expand(body, env)
}

// numberOf returns the same number for names with the same meaning.
func (r *renaming) numberOf(m meaning) int {
	key := fmt.Sprint(m.kind, m.id, m.name)
	if r.numbers[key] == 0 {
		r.numbers[key] = len(r.numbers) + 1
	}
	return r.numbers[key]
}

func (r *renaming) use(f impl.Form, m *renamedMacro, env *region) impl.Core {
	require(r.steps < r.budget, impl.ExpandSpent)
	r.steps++
	// Literals have a scope here, so that their bindings differ from those of the same names in the use.
	var list []impl.Bind
	for _, name := range impl.NamesOf(f) {
		list = append(list, bind(name, r.numberOf(r.meaningOf(name, env))))
	}
	var literals []impl.Form
	for _, literal := range m.literals {
		list = append(list, bind(literal.Name, r.numberOf(r.meaningOf(literal.Name, m.env)), 1))
		literals = append(literals, nameForm(literal.Name, 1))
	}
	for _, rule := range m.rules {
		pattern := dressed(rule.Pattern, literals)
		if hits, ok := impl.MatchPattern(list, pattern, literals, f); ok {
			filled, ok := impl.FillTemplate(r.withAliases(rule.Template, hits, m.env), hits)
			require(ok, impl.ExpandSpent)
			return r.expand(filled, env)
		}
	}
	panic(ending(impl.ExpandRule))
}

// dressed returns a pattern with the scopes of literals in the names that they have.
func dressed(p impl.Form, literals []impl.Form) impl.Form {
	for _, literal := range literals {
		if p.Kind == impl.KindName && p.Name == literal.Name {
			return literal
		}
	}
	p.Kids = slices.Clone(p.Kids)
	for i := range p.Kids {
		p.Kids[i] = dressed(p.Kids[i], literals)
	}
	return p
}

// withAliases returns a template with a new alias for each name that is no variable.
func (r *renaming) withAliases(template impl.Form, hits []impl.Hit, env *region) impl.Form {
	given := map[string]string{"...": "...", "_": "_"}
	for _, h := range hits {
		given[h.Name.Name] = h.Name.Name
	}
	return withNames(template, func(name string) string {
		if given[name] == "" {
			given[name] = fmt.Sprint("z", len(r.aliases))
			r.aliases[given[name]] = alias{name, env}
		}
		return given[name]
	})
}

// checkRenamed compares the expansion of a program with its renaming one, and returns how they end.
func checkRenamed(t *testing.T, f impl.Form, budget int) int {
	t.Helper()
	c, end := impl.ExpandForm(f, budget)
	// A renaming expansion has no scopes, of which there can be too few.
	if end == impl.ExpandSpent {
		return end
	}
	d, endOfRenaming := renamed(f, budget)
	if end != endOfRenaming || end == impl.ExpandOk && !impl.CoreAlike(c, d) {
		t.Errorf("%s becomes %s (%s), and with other names for those of templates %s (%s)", impl.FormatForm(f),
			impl.FormatCore(c), endNames[end], impl.FormatCore(d), endNames[endOfRenaming])
	}
	return end
}

// programs makes programs from few names, so that names of macros and of their uses are often the same.
type programs struct {
	*rand.Rand
}

// names are what a part of a program can be made of: what it can bind, and what it can have as a value.
type names struct {
	bound, used []string
}

func (p *programs) oneOf(texts []string) string {
	return texts[p.Intn(len(texts))]
}

// form returns the text of a form of at most so many levels.
func (p *programs) form(levels int, n names) string {
	if levels == 0 {
		return p.oneOf(n.used)
	}
	inner := func() string { return p.form(levels-1, n) }
	switch p.Intn(13) {
	case 0:
		return p.oneOf(n.used)
	case 1, 2:
		return "(f " + inner() + " " + inner() + ")"
	case 3:
		return "(if " + inner() + " " + inner() + " " + inner() + ")"
	case 4, 5:
		return "(lambda (" + p.oneOf(n.bound) + ") " + inner() + ")"
	case 6:
		return "(let ((" + p.oneOf(n.bound) + " " + inner() + ") (" + p.oneOf(n.bound) + " " + inner() + ")) " + inner() + ")"
	case 7:
		return "(let ((" + p.oneOf(n.bound) + " " + inner() + ")) " + inner() + ")"
	case 8:
		return "(quote " + inner() + ")"
	case 9:
		return p.withMacros(levels-1, n)
	case 10:
		return "(" + p.macro() + " " + inner() + " " + inner() + ")"
	}
	return "(" + p.macro() + " " + p.oneOf(n.bound) + " " + inner() + ")"
}

func (p *programs) macro() string {
	return p.oneOf([]string{"m", "n"})
}

// withMacros returns the text of a let-syntax. Its body is in a region of its own: in the region of the macros, names of
// a use have no scope that those of the templates do not have, and so a function around both would bind both.
func (p *programs) withMacros(levels int, n names) string {
	return "(let-syntax ((m " + p.rules(levels, n) + ") (n " + p.rules(levels, n) + ")) (let () " + p.form(levels, n) + "))"
}

// rules returns the text of the rules of a macro, with two variables, whose names others can have.
func (p *programs) rules(levels int, n names) string {
	a, b := p.oneOf([]string{"a", "x", "y"}), p.oneOf([]string{"b", "x", "if"})
	if a == b {
		b = "c"
	}
	inner := names{append([]string{a, a, a}, n.bound...), append([]string{a, b, b, b}, n.used...)}
	general := " ((_ " + a + " " + b + ") " + p.form(levels, inner) + ")"
	if p.Intn(2) == 0 {
		return "(rules ()" + general + ")"
	}
	literal := p.oneOf([]string{"x", "y", "else", "if"})
	if a == literal || b == literal {
		literal = "l"
	}
	inner = names{n.bound, append([]string{b, b, literal}, n.used...)}
	return "(rules (" + literal + ") ((_ " + literal + " " + b + ") " + p.form(levels, inner) + ")" + general + ")"
}

// TestExpansionsWithRenamedTemplates compares the expansions of many programs with renaming ones.
func TestExpansionsWithRenamedTemplates(t *testing.T) {
	p := &programs{rand.New(rand.NewSource(7))}
	n := names{[]string{"x", "y", "f", "if", "else", "let"}, []string{"x", "y", "f", "1"}}
	steps := map[int]int{}
	for range 4000 {
		f, ok := impl.ParseForm(p.withMacros(3, n))
		if ok && checkRenamed(t, f, 15) == impl.ExpandOk {
			x, _ := impl.ExpandState(f, 15)
			steps[x.Steps]++
		}
	}
	if steps[0] < 1000 || steps[1] < 300 || steps[2] < 100 || steps[3] < 30 {
		t.Errorf("too few programs have uses of macros: the numbers of steps are %v", steps)
	}
}

// nameChoice is a program with letters in place of names. Those in one of the words of apart get different names, and
// no letter of a key of except gets one of the names there.
type nameChoice struct {
	text   string
	apart  []string
	except map[string][]string
}

var chosenNames = []string{"x", "f", "m", "if", "let", "lambda", "_"}

// named returns the program with these names for letters, and whether they can be chosen.
func (c nameChoice) named(names map[rune]string) (string, bool) {
	for _, word := range c.apart {
		seen := map[string]bool{}
		for _, letter := range word {
			if seen[names[letter]] {
				return "", false
			}
			seen[names[letter]] = true
		}
	}
	for letters, forbidden := range c.except {
		for _, letter := range letters {
			if slices.Contains(forbidden, names[letter]) {
				return "", false
			}
		}
	}
	var pairs []string
	for letter, name := range names {
		pairs = append(pairs, string(letter), name)
	}
	return strings.NewReplacer(pairs...).Replace(c.text), true
}

// lettersIn returns the letters in a text that stand for names.
func lettersIn(text string) []rune {
	var letters []rune
	for _, r := range text {
		if 'A' <= r && r <= 'Z' && !slices.Contains(letters, r) {
			letters = append(letters, r)
		}
	}
	return letters
}

// checkChoices tries all names for each three of the letters of c, and names that no other one has for the others.
func checkChoices(t *testing.T, c nameChoice, want string) {
	t.Helper()
	letters := lettersIn(c.text)
	plain := map[rune]string{}
	for i, letter := range letters {
		plain[letter] = fmt.Sprint("plain", i)
	}
	text, _ := c.named(plain)
	first, end := impl.ExpandForm(parse(t, text), 20)
	numbered, _ := impl.NumberCore(first)
	if got := impl.FormatCore(numbered); end != impl.ExpandOk || got != want {
		t.Fatalf("%s becomes %s, %d, want %s", text, got, end, want)
	}
	tried := 0
	for i := range letters {
		for j := range i {
			for k := range max(j, 1) {
				tried += c.checkThree(t, plain, []rune{letters[i], letters[j], letters[k]}, first)
			}
		}
	}
	if tried < 90 {
		t.Errorf("only %d choices of names are tried for %s", tried, c.text)
	}
}

// checkThree returns how many choices it has tried.
func (c nameChoice) checkThree(t *testing.T, plain map[rune]string, letters []rune, want impl.Core) int {
	t.Helper()
	names, tried := maps.Clone(plain), 0
	var choose func(left []rune)
	choose = func(left []rune) {
		if len(left) > 0 {
			for _, name := range chosenNames {
				names[left[0]] = name
				choose(left[1:])
			}
			return
		}
		text, ok := c.named(names)
		if !ok {
			return
		}
		tried++
		if got, end := impl.ExpandForm(parse(t, text), 20); end != impl.ExpandOk || !impl.CoreAlike(got, want) {
			t.Errorf("%s becomes %s, %d, which is not alike to %s", text, impl.FormatCore(got), end, impl.FormatCore(want))
		}
	}
	choose(letters)
	return tried
}

// TestNamesDoNotMatter chooses names for the variables of macros, for those that templates bind, and for those of uses.
// The uses are in functions within the region of the macros.
func TestNamesDoNotMatter(t *testing.T) {
	forms := []string{"lambda", "let", "if", "let-syntax", "f", "m"}
	for _, c := range []struct {
		nameChoice
		want string
	}{
		{nameChoice{"(let-syntax ((m (rules () ((_ P Q) (let ((B P)) (f Q B)))))) (lambda (A C) (m A C)))",
			[]string{"PQB", "AC"}, map[string][]string{"PQ": {"let", "f", "_"}, "B": {"f", "_"}, "AC": {"m"}}},
			"(fun (#1 #2) ((fun (#3) (f #2 #3)) #1))"},
		{nameChoice{"(let-syntax ((m (rules () ((_ P Q) (let ((B P)) (if B B Q)))))) (lambda (A) (lambda (C) (m A C))))",
			[]string{"PQB", "AC"}, map[string][]string{"PQ": {"let", "if", "_"}, "B": {"if", "_"}, "A": {"m", "lambda"}, "C": {"m"}}},
			"(fun (#1) (fun (#2) ((fun (#3) (if #3 #3 #2)) #1)))"},
		// Names of the use that are bound around, beside and within those of the template.
		{nameChoice{"(let-syntax ((m (rules () ((_ P) (lambda (P B) (f P B z)))))) (lambda (C) (m A)))",
			[]string{"PB"}, map[string][]string{"P": {"lambda", "f", "_"}, "B": {"f", "_"}, "C": {"m"}}},
			"(fun (#1) (fun (#2 #3) (f #2 #3 z)))"},
		{nameChoice{"(let-syntax ((m (rules () ((_ P Q) (lambda (P) (lambda (B) (f B P Q))))))) (lambda (C) (m A C)))",
			[]string{"PQB", "AC"}, map[string][]string{"PQ": {"lambda", "f", "_"}, "B": {"f", "_"}, "C": {"m"}}},
			"(fun (#1) (fun (#2) (fun (#3) (f #3 #2 #1))))"},
		{nameChoice{"(let-syntax ((m (rules () ((_ P Q) (lambda (B) (let ((P B)) (f B P Q))))))) (lambda (C) (m A C)))",
			[]string{"PQB", "AC"}, map[string][]string{"PQ": {"lambda", "let", "f", "_"}, "B": {"f", "let", "_"}, "C": {"m"}}},
			"(fun (#1) (fun (#2) ((fun (#3) (f #2 #3 #1)) #2)))"},
		// A variable around the macro, which one around the use can hide.
		{nameChoice{"(lambda (V) (let-syntax ((m (rules () ((_ P) (f P V))))) (lambda (A) (m A))))",
			[]string{"PV"}, map[string][]string{"P": {"f", "_"}, "V": append(forms, "_"), "A": {"m"}}},
			"(fun (#1) (fun (#2) (f #2 #1)))"},
		{nameChoice{"(let ((V 1) (W 2)) (let-syntax ((m (rules () ((_ P) (let ((B V)) (f P B W)))))) (let ((A 2)) (m A))))",
			[]string{"PVWB"}, map[string][]string{"P": {"let", "f", "_"}, "B": {"f", "_"}, "VW": append(forms, "_"), "A": {"m"}}},
			"((fun (#1 #2) ((fun (#3) ((fun (#4) (f #3 #4 #2)) #1)) 2)) 1 2)"},
		// A literal, which the use binds.
		{nameChoice{"(let-syntax ((m (rules (L) ((_ L P) P) ((_ Q P) (f Q P))))) (lambda (A) (f (m L 3) (m A 4))))",
			[]string{"LPQ", "LA"}, map[string][]string{"L": {"_", "m"}, "PQ": {"f", "_"}, "A": {"m", "f"}}},
			"(fun (#1) (f 3 (f #1 4)))"},
		{nameChoice{"(let-syntax ((m (rules (L) ((_ L P) P) ((_ Q P) (f Q P))))) (lambda (L) (m L 4)))",
			[]string{"LPQ"}, map[string][]string{"L": {"_", "m"}, "PQ": {"f", "_"}}}, "(fun (#1) (f #1 4))"},
		// A macro that uses itself, and one that makes another one.
		{nameChoice{"(let-syntax ((m (rules () ((_ P) P) ((_ P Q ...) (let ((B P)) (if B B (m Q ...))))))) (lambda (A C D) (m A C D)))",
			[]string{"PQB", "ACD"}, map[string][]string{"PQ": {"let", "if", "m", "_"}, "B": {"if", "m", "_"}, "ACD": {"m"}}},
			"(fun (#1 #2 #3) ((fun (#4) (if #4 #4 ((fun (#5) (if #5 #5 #3)) #2))) #1))"},
		{nameChoice{"(let-syntax ((m (rules () ((_ N E) (let-syntax ((N (rules () ((_ P) (let ((B 1)) (f B P E)))))) (lambda (C) (N C))))))) " +
			"(lambda (A) (m D A)))",
			[]string{"NEPB", "NEC", "AD"}, map[string][]string{"NE": append(forms, "rules", "_"), "P": {"let", "f", "_"}, "B": {"f", "_"}, "A": {"m"}}},
			"(fun (#1) (fun (#2) ((fun (#3) (f #3 #2 #1)) 1)))"},
	} {
		checkChoices(t, c.nameChoice, c.want)
	}
}

// TestNamesInTheRegionOfTheirMacro tells what the rules of expansion make of a use that is in the region of its macro,
// and not in a further one: what its names bind, around names of the template, binds these, too.
func TestNamesInTheRegionOfTheirMacro(t *testing.T) {
	const lambda = "((_ v e) (lambda (v) (f v e)))"
	checkExpands(t, 9, []expandCase{
		{macroOf(lambda, "(m x (x f))"), "(fun (#12) (f #12 (#12 f)))"},
		{macroOf(lambda, "(m f y)"), "(fun (#12) (#12 #12 y))"},
		{macroOf(lambda, "(lambda () (m f y))"), "(fun () (fun (#12) (f #12 y)))"},
		{"(lambda (f) " + macroOf(lambda, "(lambda () (m f y))") + ")", "(fun (#11) (fun () (fun (#13) (#11 #13 y))))"},
		{macroOf("((_ v) (lambda (v x) (f v x)))", "(m x)"), "(fun (#12 #13) (f #12 #13))"},
		{macroOf("((_ v) (lambda (x) (lambda (v) (f v x))))", "(m x)"), "many"},
	})
}
