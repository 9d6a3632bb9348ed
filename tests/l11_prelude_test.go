package tests

import (
	"slices"
	"strings"
	"testing"

	"loop.example/macroexpander/impl"
)

// libraryRules are the macros that the specification lists, with their rules, in order.
var libraryRules = [][2]string{
	{"and", "(rules () ((_) 1) ((_ a) a) ((_ a b ...) (if a (and b ...) 0)))"},
	{"or", "(rules () ((_) 0) ((_ a) a) ((_ a b ...) (let ((t a)) (if t t (or b ...)))))"},
	{"not", "(rules () ((_ a) (if a 0 1)))"},
	{"when", "(rules () ((_ a b) (if a b 0)))"},
	{"cond", "(rules (else) ((_) 0) ((_ (else e)) e) ((_ (c e) r ...) (if c e (cond r ...))))"},
	{"let*", "(rules () ((_ () b) b) ((_ ((x v) r ...) b) (let ((x v)) (let* (r ...) b))))"},
	{"swap", "(rules () ((_ a b) (let ((tmp a)) (list b tmp))))"},
}

// libraryNames returns the names of the macros that the specification lists, in order.
func libraryNames() []string {
	var names []string
	for _, macro := range libraryRules {
		names = append(names, macro[0])
	}
	return names
}

func spoilNames(names []string) {
	for i := range names[:cap(names)] {
		names[:cap(names)][i] = "spoilt"
	}
}

func TestLibraryNames(t *testing.T) {
	first := impl.LibraryNames()
	again := impl.LibraryNames()
	if !slices.Equal(first, libraryNames()) {
		t.Errorf("LibraryNames = %q", first)
	}
	spoilNames(first)
	if !slices.Equal(again, libraryNames()) || !slices.Equal(impl.LibraryNames(), libraryNames()) {
		t.Error("results of LibraryNames share memory, or state is kept")
	}
}

func TestLibraryRules(t *testing.T) {
	for _, macro := range libraryRules {
		text, ok := impl.LibraryRules(macro[0])
		if text != macro[1] || !ok {
			t.Errorf("LibraryRules of %s = %q, %v, want %q", macro[0], text, ok, macro[1])
		}
		f := parse(t, text)
		_, rules, fine := impl.ParseRules(f)
		if impl.FormatForm(f) != text || !fine || len(rules) == 0 {
			t.Errorf("the rules of %s are %s, and ParseRules returns %v", macro[0], text, fine)
		}
	}
	for _, name := range []string{
		"", " ", "an", "andd", "AND", "and ", " and", "and{1}", "(and)", "let", "let**", "*", "else", "list", "tmp", "if", "rules", "_", "...",
		"and or", "and\x00", "\xff", strings.Repeat("and", 1000),
	} {
		if text, ok := impl.LibraryRules(name); text != "" || ok {
			t.Errorf("LibraryRules of %q = %q, %v", name, text, ok)
		}
	}
}

func TestNeededMacros(t *testing.T) {
	for text, want := range map[string]string{
		"and":             "and",
		"swap{1,2}":       "swap",
		"5":               "",
		"()":              "",
		"(list x else t)": "",
		// The order is that of the library, and each name is told once.
		"(swap (or a b) and)":                        "and or swap",
		"(and (and and{3}) and)":                     "and",
		"(swap let* cond when not or and)":           "and or not when cond let* swap",
		"(let* swap)":                                "let* swap",
		"((((when))) (() cond))":                     "when cond",
		"(an andd and-1 or2 nots let lets let*s *)":  "",
		"(quote (not x))":                            "not",
		"(let ((or 1)) 2)":                           "or",
		"(lambda (cond) cond)":                       "cond",
		"(rules (and) ((_ or) not))":                 "and or not",
		"(let-syntax ((swap (rules ()))) (swap 1))":  "swap",
		"(f and{1,99} 3 (... or{7} _) 4)":            "and or",
		"(when not (swap) x (y (z) let*) when when)": "not when let* swap",
	} {
		if got := strings.Join(impl.NeededMacros(parse(t, text)), " "); got != want {
			t.Errorf("NeededMacros of %s = %q, want %q", text, got, want)
		}
	}
	// One macro of the library does not need the others that its rules have.
	for _, macro := range libraryRules {
		if got := impl.NeededMacros(listForm(nameForm(macro[0]), numForm(1))); !slices.Equal(got, []string{macro[0]}) {
			t.Errorf("NeededMacros of a use of %s = %q", macro[0], got)
		}
	}
}

func TestNeededMacrosAcceptsInvalidForms(t *testing.T) {
	or := []impl.Form{nameForm("or")}
	for what, c := range map[string]struct {
		f    impl.Form
		want string
	}{
		"the zero value":          {impl.Form{}, ""},
		"a bad scope":             {nameForm("and", 100, 0), "and"},
		"a name with N":           {impl.Form{Kind: impl.KindName, Name: "and", N: 7}, "and"},
		"a name with Kids":        {impl.Form{Kind: impl.KindName, Name: "not", Kids: or}, "or not"},
		"a number with a name":    {impl.Form{Kind: impl.KindNum, Name: "and", Kids: or}, "or"},
		"a list with a name":      {impl.Form{Kind: impl.KindList, Name: "and", Kids: or}, "or"},
		"another kind":            {impl.Form{Kind: 4, Name: "and", Kids: or}, "or"},
		"names that are no names": {listForm(nameForm(""), nameForm("AND"), nameForm("and ")), ""},
		"too many nodes":          {listForm(wide(500), nameForm("swap")), "swap"},
		"too many levels":         {within(5000, nameForm("cond")), "cond"},
		"itself":                  {selfHolding(), ""},
	} {
		if got := strings.Join(impl.NeededMacros(c.f), " "); got != c.want {
			t.Errorf("NeededMacros of %s = %q, want %q", what, got, c.want)
		}
	}
	for what, f := range invalidForms() {
		if got := impl.NeededMacros(f); len(got) != 0 {
			t.Errorf("NeededMacros of %s = %q", what, got)
		}
	}
}

// libraryText returns the text of a form with bindings of macros around it, as the specification lists their rules.
func libraryText(body string, names ...string) string {
	var bindings []string
	for _, macro := range libraryRules {
		if slices.Contains(names, macro[0]) {
			bindings = append(bindings, "("+macro[0]+" "+macro[1]+")")
		}
	}
	return "(let-syntax (" + strings.Join(bindings, " ") + ") " + body + ")"
}

func TestWithLibrary(t *testing.T) {
	for text, names := range map[string][]string{
		"5":                                 nil,
		"()":                                nil,
		"x{1,2}":                            nil,
		"(let ((t 7)) (or 0 t))":            {"or"},
		"(not 1)":                           {"not"},
		"and":                               {"and"},
		"(quote (when cond{4}))":            {"when", "cond"},
		"(swap let* cond when not or and)":  libraryNames(),
		"(swap{9} (and a{1,2}) (and))":      {"and", "swap"},
		libraryText("(or 1)", "or"):         {"or"},
		"(let-syntax{3} () (let* () 1))":    {"let*"},
		"((lambda (cond) cond) else rules)": {"cond"},
	} {
		f, ok := impl.WithLibrary(parse(t, text))
		if got, want := impl.FormatForm(f), libraryText(text, names...); got != want || !ok {
			t.Errorf("WithLibrary of %s = %s, %v, want %s", text, got, ok, want)
		}
	}
}

// checkNoLibrary checks what is told of a form that is not valid with the library.
func checkNoLibrary(t *testing.T, what string, f impl.Form) {
	t.Helper()
	if g, ok := impl.WithLibrary(f); ok || !isZero(g) {
		t.Errorf("WithLibrary of %s = %v, %v", what, g, ok)
	}
	for _, budget := range []int{0, 9, -1, 61} {
		for _, fuel := range []int{0, 9, -1, 3001} {
			if text, end, last := impl.RunForm(f, budget, fuel); text != "" || end != impl.ExpandBad || last != impl.EvalBad {
				t.Errorf("RunForm of %s with %d and %d = %q, %d, %d", what, budget, fuel, text, end, last)
			}
		}
	}
}

func TestWithLibraryRefuses(t *testing.T) {
	for what, f := range invalidForms() {
		checkNoLibrary(t, what, f)
		checkNoLibrary(t, what+" in a list", listForm(nameForm("and"), f))
	}
	// Each level has the next one twice: there are too many nodes to look at all of them.
	twice := listForm(nameForm("and"))
	for range 70 {
		twice = listForm(twice, twice)
	}
	checkNoLibrary(t, "a form with 70 levels", twice)
}

// TestLibraryHasRoomInForms has forms that are as large as they can be with the library.
func TestLibraryHasRoomInForms(t *testing.T) {
	for _, names := range [][]string{nil, {"not"}, {"cond", "let*"}, libraryNames()} {
		f := listForm()
		for _, name := range names {
			f.Kids = append(f.Kids, nameForm(name))
		}
		left := impl.MaxNodes - impl.FormSize(parse(t, libraryText(impl.FormatForm(f), names...)))
		f.Kids = append(f.Kids, slices.Repeat([]impl.Form{numForm(1)}, left)...)
		if g, ok := impl.WithLibrary(f); !ok || impl.FormSize(g) != impl.MaxNodes || !impl.FormSame(g.Kids[2], f) {
			t.Errorf("with the names %q, WithLibrary returns %v for %d nodes", names, ok, impl.FormSize(f))
		}
		f.Kids = append(f.Kids, numForm(1))
		checkNoLibrary(t, "a form with a node too many", f)
	}
	if g, ok := impl.WithLibrary(nested(39)); !ok || impl.FormatForm(g) != libraryText(impl.FormatForm(nested(39))) {
		t.Errorf("WithLibrary of 39 levels = %s, %v", impl.FormatForm(g), ok)
	}
	checkNoLibrary(t, "40 levels", nested(40))
	deep := within(38, nameForm("let*"))
	if g, ok := impl.WithLibrary(deep); !ok || !impl.FormSame(g.Kids[2], deep) {
		t.Errorf("WithLibrary of a name on the level 39 = %s, %v", impl.FormatForm(g), ok)
	}
	checkNoLibrary(t, "a name on the level 40", within(39, nameForm("let*")))
}

func TestLibrarySharesNoMemory(t *testing.T) {
	f := listForm(roomyCopy(parse(t, "(swap (and x{1,2}))")), roomyForm(), nameForm("cond", 4))
	before := memoryOfForm(f)
	g, ok := impl.WithLibrary(f)
	again, _ := impl.WithLibrary(f)
	needed := impl.NeededMacros(f)
	neededAgain := impl.NeededMacros(f)
	want := libraryText("((swap (and x{1,2})) (x{1,3} y 5 ()) cond{4})", "and", "cond", "swap")
	if impl.FormatForm(g) != want || !ok || memoryOfForm(f) != before {
		t.Fatalf("WithLibrary = %s, %v, or changes its argument", impl.FormatForm(g), ok)
	}
	checkPartsOfForm(t, g)
	spoilNames(needed)
	if memoryOfForm(f) != before || impl.FormatForm(again) != want || !slices.Equal(neededAgain, []string{"and", "cond", "swap"}) {
		t.Error("a result shares memory with the argument or another result")
	}
	if last, _ := impl.WithLibrary(f); impl.FormatForm(last) != want || !slices.Equal(impl.NeededMacros(f), neededAgain) {
		t.Error("state is kept")
	}
}
