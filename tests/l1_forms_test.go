package tests

import (
	"regexp"
	"slices"
	"strings"
	"testing"

	"loop.example/macroexpander/impl"
)

func TestNameValid(t *testing.T) {
	valid := []string{"...", "_", "a", "z", "*", "?", "=", "+", "<", "x0", "x9", "x-", "let-syntax", "let*", "+5", "a-1-b", "abcdefghijkl", "<=?+*0-----9"}
	for _, s := range valid {
		if !impl.NameValid(s) {
			t.Errorf("NameValid(%q) is false", s)
		}
	}
	invalid := []string{"", ".", "..", "....", "__", "_a", "a_", "a...", "-", "-a", "0", "9a", "A", "aB", "a b", " a", "a ", "a>", "a.b", "a{1}", "(a)", "é", "aé", "a\xff", "\xff", "a\x00", "abcdefghijklm", strings.Repeat("a", 1000)}
	for _, s := range invalid {
		if impl.NameValid(s) {
			t.Errorf("NameValid(%q) is true", s)
		}
	}
}

func TestNameValidTakesEachByteAsStated(t *testing.T) {
	const first = "abcdefghijklmnopqrstuvwxyz*?=+<"
	const later = first + "0123456789-"
	for b := range 256 {
		c := string([]byte{byte(b)})
		if want := strings.Contains(first, c) || c == "_"; impl.NameValid(c) != want {
			t.Errorf("NameValid(%q) is %v", c, !want)
		}
		if want := strings.Contains(later, c); impl.NameValid("a"+c) != want || impl.NameValid("a"+c+"a") != want {
			t.Errorf("NameValid(%q) or NameValid(%q) is %v", "a"+c, "a"+c+"a", !want)
		}
	}
}

func TestFormValid(t *testing.T) {
	for name, f := range validForms() {
		if !impl.FormValid(f) {
			t.Errorf("FormValid is false for %s", name)
		}
	}
	for name, f := range invalidForms() {
		if impl.FormValid(f) {
			t.Errorf("FormValid is true for %s", name)
		}
		if impl.FormValid(listForm(numForm(1), f)) {
			t.Errorf("FormValid is true for a list with %s", name)
		}
	}
}

func validForms() map[string]impl.Form {
	return map[string]impl.Form{
		"a name":             nameForm("x"),
		"dots":               nameForm("..."),
		"a name with scopes": nameForm("_", 1, 2, 99),
		"the most scopes":    nameForm("x", scopesUpTo(24)...),
		"empty slices":       {Kind: impl.KindName, Name: "x", Scopes: []int{}, Kids: []impl.Form{}},
		"0":                  numForm(0),
		"999":                numForm(999),
		"an empty list":      listForm(),
		"a list":             listForm(nameForm("x", 3), numForm(4), listForm()),
		"400 nodes":          wide(400),
		"40 levels":          nested(40),
	}
}

func invalidForms() map[string]impl.Form {
	kids := []impl.Form{nameForm("x")}
	return map[string]impl.Form{
		"the zero value":        {},
		"kind 4":                {Kind: 4},
		"kind -1":               {Kind: -1, Name: "x"},
		"no name":               nameForm(""),
		"a bad name":            nameForm("1x"),
		"a long name":           nameForm("abcdefghijklm"),
		"a name with N":         {Kind: impl.KindName, Name: "x", N: 1},
		"a name with Kids":      {Kind: impl.KindName, Name: "x", Kids: kids},
		"scope 0":               nameForm("x", 0),
		"scope -1":              nameForm("x", -1, 2),
		"scope 100":             nameForm("x", 100),
		"a scope twice":         nameForm("x", 2, 2),
		"descending scopes":     nameForm("x", 2, 1),
		"too many scopes":       nameForm("x", scopesUpTo(25)...),
		"-1":                    numForm(-1),
		"1000":                  numForm(1000),
		"a number with a name":  {Kind: impl.KindNum, Name: "x"},
		"a number with scopes":  {Kind: impl.KindNum, Scopes: []int{1}},
		"a number with Kids":    {Kind: impl.KindNum, Kids: kids},
		"a list with a name":    {Kind: impl.KindList, Name: "x", Kids: kids},
		"a list with N":         {Kind: impl.KindList, N: 1, Kids: kids},
		"a list with scopes":    {Kind: impl.KindList, Scopes: []int{1}},
		"401 nodes":             wide(401),
		"401 nodes, two levels": listForm(wide(200), wide(200)),
		"41 levels":             nested(41),
		"a form that has none":  listForm(impl.Form{}),
		"a form within itself":  selfHolding(),
	}
}

func TestFormLimits(t *testing.T) {
	numberDeep := nested(39)
	for f := &numberDeep; ; f = &f.Kids[0] {
		if len(f.Kids) == 0 {
			f.Kids = []impl.Form{numForm(1), numForm(2)}
			break
		}
	}
	if !impl.FormValid(numberDeep) || impl.FormValid(listForm(numberDeep)) {
		t.Error("a number counts as a node on the way down to it")
	}
	if !impl.FormValid(listForm(nested(39), wide(360))) || impl.FormValid(listForm(nested(39), wide(361))) {
		t.Error("the nodes of all kids count together")
	}
	if !impl.FormValid(listForm(nested(39), nested(39), nested(39))) {
		t.Error("levels of kids beside each other do not add up")
	}
}

func TestFormSame(t *testing.T) {
	full := impl.Form{Kind: 9, Name: "x", N: 5, Scopes: []int{2, 1}, Kids: []impl.Form{{Kind: 7}}}
	if !impl.FormSame(full, full) || !impl.FormSame(impl.Form{}, impl.Form{}) {
		t.Error("an invalid form is equal to itself")
	}
	others := []impl.Form{
		{Kind: 8, Name: "x", N: 5, Scopes: []int{2, 1}, Kids: []impl.Form{{Kind: 7}}},
		{Kind: 9, Name: "y", N: 5, Scopes: []int{2, 1}, Kids: []impl.Form{{Kind: 7}}},
		{Kind: 9, Name: "x", N: 6, Scopes: []int{2, 1}, Kids: []impl.Form{{Kind: 7}}},
		{Kind: 9, Name: "x", N: 5, Scopes: []int{1, 2}, Kids: []impl.Form{{Kind: 7}}},
		{Kind: 9, Name: "x", N: 5, Scopes: []int{2}, Kids: []impl.Form{{Kind: 7}}},
		{Kind: 9, Name: "x", N: 5, Scopes: []int{2, 1}, Kids: []impl.Form{{Kind: 6}}},
		{Kind: 9, Name: "x", N: 5, Scopes: []int{2, 1}, Kids: []impl.Form{{Kind: 7}, {Kind: 7}}},
		{Kind: 9, Name: "x", N: 5, Scopes: []int{2, 1}},
	}
	for i, g := range others {
		if impl.FormSame(full, g) || impl.FormSame(g, full) {
			t.Errorf("FormSame is true for other %d", i)
		}
		if impl.FormSame(listForm(numForm(1), full), listForm(numForm(1), g)) {
			t.Errorf("FormSame is true for a list with other %d", i)
		}
	}
	empty := impl.Form{Kind: impl.KindList, Scopes: []int{}, Kids: []impl.Form{}}
	if !impl.FormSame(listForm(), empty) || !impl.FormSame(empty, listForm()) {
		t.Error("nil and empty slices are equivalent")
	}
}

func TestFormSize(t *testing.T) {
	sizes := map[string]int{"x{1,2}": 1, "5": 1, "()": 1, "(x)": 2, "(let ((x 1)) x{2,5})": 7, "((()))": 3}
	for text, want := range sizes {
		if got := impl.FormSize(parse(t, text)); got != want {
			t.Errorf("FormSize of %s = %d, want %d", text, got, want)
		}
	}
	oddKids := impl.Form{Kind: impl.KindName, Kids: []impl.Form{{}, {Kids: []impl.Form{{}}}}}
	if impl.FormSize(impl.Form{}) != 1 || impl.FormSize(oddKids) != 4 {
		t.Error("FormSize counts all nodes of an invalid form")
	}
	if impl.FormSize(wide(5000)) != 5000 || impl.FormSize(nested(5000)) != 5000 {
		t.Error("FormSize counts nodes past the limits")
	}
}

func TestFormatForm(t *testing.T) {
	texts := map[string]impl.Form{
		"x":                nameForm("x"),
		"x{7}":             nameForm("x", 7),
		"...{2,5,99}":      nameForm("...", 2, 5, 99),
		"0":                numForm(0),
		"999":              numForm(999),
		"()":               listForm(),
		"(x)":              listForm(nameForm("x")),
		"(() 10 (a{1} _))": listForm(listForm(), numForm(10), listForm(nameForm("a", 1), nameForm("_"))),
	}
	for want, f := range texts {
		if got := impl.FormatForm(f); got != want {
			t.Errorf("FormatForm = %q, want %q", got, want)
		}
	}
	for name, f := range invalidForms() {
		if got := impl.FormatForm(f); got != "" {
			t.Errorf("FormatForm of %s = %q", name, got)
		}
	}
}

func TestFormsAreReadBack(t *testing.T) {
	for name, f := range validForms() {
		text := impl.FormatForm(f)
		g, ok := impl.ParseForm(text)
		if !ok || !impl.FormSame(f, g) {
			t.Errorf("%s: ParseForm(%q) = %v, %v", name, text, g, ok)
		}
	}
}

func TestParseFormReadsFields(t *testing.T) {
	f := parse(t, "(let ((x 1)) x{2,5})")
	want := listForm(nameForm("let"), listForm(listForm(nameForm("x"), numForm(1))), nameForm("x", 2, 5))
	if !impl.FormSame(f, want) {
		t.Errorf("ParseForm = %v", f)
	}
}

func TestParseFormSpaces(t *testing.T) {
	texts := map[string]string{
		"   x  ":             "x",
		" 5 ":                "5",
		" x{1} ":             "x{1}",
		"  (  )  ":           "()",
		"()":                 "()",
		"(a(b)c)":            "(a (b) c)",
		"(1(2)3)":            "(1 (2) 3)",
		"(()())":             "(() ())",
		"( ( )( ) )":         "(() ())",
		"(x{1}y{2}z)":        "(x{1} y{2} z)",
		"(x{1}5)":            "(x{1} 5)",
		"(x{1}...)":          "(x{1} ...)",
		"(x{1}())":           "(x{1} ())",
		"(_     ...   _)":    "(_ ... _)",
		"(+5)":               "(+5)",
		"( let((x 1) )x{2})": "(let ((x 1)) x{2})",
	}
	for text, want := range texts {
		if got := impl.FormatForm(parse(t, text)); got != want {
			t.Errorf("ParseForm(%q) has the text %q, want %q", text, got, want)
		}
	}
	spaces := strings.Repeat(" ", 100000)
	if got := impl.FormatForm(parse(t, spaces+"("+spaces+"x"+spaces+")"+spaces)); got != "(x)" {
		t.Errorf("with many spaces, ParseForm has the text %q", got)
	}
}

func TestParseFormRefuses(t *testing.T) {
	texts := []string{
		"", " ", "(", ")", ")(", "(()", "())", "x)", "(x", "()x", "x()", "x y", "1 2", "x{1}y", "() ()",
		"A", "-a", "-1", "-0", "01", "00", "1000", "99999999999999999999", "1x", "(1x)", "(x...)", "(...x)", "..", "....", "toolonganame1",
		"x{}", "x{", "x}", "}", "{", "{}", "{1}", "x{1", "x{1}}", "x{1}{2}", "x{{1}", "x{2,1}", "x{1,1}", "x{0}", "x{100}", "x{01}", "x{-1}", "x{+1}",
		"x{1,}", "x{,1}", "x{1,,2}", "x{,}", "x{a}", "x {1}", "x{ 1}", "x{1 }", "x{1, 2}", "(x{1 2})", "x{(}", "1{2}", "(){1}", "01{1}",
		"x\n", "\tx", "(x\ny)", "(x\u00a0y)", "x\x00", "\xff", "é", "x,y", "'x", "1_0", "0x1", "1.0", "١",
	}
	for _, text := range texts {
		if f, ok := impl.ParseForm(text); ok || !isZero(f) {
			t.Errorf("ParseForm(%q) = %v, %v", text, f, ok)
		}
	}
}

func TestParseFormLimits(t *testing.T) {
	ups := func(n int) string { return strings.Repeat("(", n) }
	downs := func(n int) string { return strings.Repeat(")", n) }
	scopes := "x{1,2,3,4,5,6,7,8,9,10,11,12,13,14,15,16,17,18,19,20,21,22,23,24"
	fits := []string{
		ups(40) + downs(40), ups(39) + "x 1" + downs(39),
		"(" + strings.Repeat("x ", 399) + ")", "(" + strings.Repeat("()", 399) + ")",
		scopes + "}", "x{99}", "abcdefghijkl", "999",
	}
	for _, text := range fits {
		if _, ok := impl.ParseForm(text); !ok {
			t.Errorf("ParseForm(%q) returns false", text)
		}
	}
	exceeds := []string{
		ups(41) + downs(41), ups(40) + "x" + downs(40),
		"(" + strings.Repeat("x ", 400) + ")", "(" + strings.Repeat("()", 400) + ")",
		scopes + ",25}", "x{100}", "abcdefghijklm", "1000",
		ups(1000000), ups(1000000) + downs(1000000), "(" + strings.Repeat("() ", 1000000) + ")",
		strings.Repeat("x", 1000000), strings.Repeat("1", 1000000), "x{" + strings.Repeat("1,", 1000000) + "2}",
	}
	for _, text := range exceeds {
		if f, ok := impl.ParseForm(text); ok || !isZero(f) {
			t.Errorf("ParseForm of %d bytes, %.20q.., is %v", len(text), text, ok)
		}
	}
}

var atomText = regexp.MustCompile(`^(1{1,3}|x[x1]*|x[x1]*\{1{1,2}\})$`)

// hasForm reports whether text, of at most 6 bytes out of "()x1{} ", is the text of a form.
func hasForm(text string) bool {
	spaced := strings.NewReplacer("(", " ( ", ")", " ) ", "}", "} ").Replace(text)
	open, ended := 0, false
	for _, token := range strings.Fields(spaced) {
		switch {
		case ended:
			return false
		case token == "(":
			open++
		case token == ")" && open > 0:
			open--
		case !atomText.MatchString(token):
			return false
		}
		ended = open == 0
	}
	return ended
}

func TestParseFormOfAllShortTexts(t *testing.T) {
	texts := []string{""}
	for len(texts[0]) <= 6 {
		var longer []string
		for _, text := range texts {
			f, ok := impl.ParseForm(text)
			if ok != hasForm(text) {
				t.Fatalf("ParseForm(%q) = %v, %v", text, f, ok)
			}
			if g, again := impl.ParseForm(impl.FormatForm(f)); again != ok || !impl.FormSame(f, g) {
				t.Fatalf("the form of %q is not read back", text)
			}
			for _, c := range []string{"(", ")", "x", "1", "{", "}", " "} {
				longer = append(longer, text+c)
			}
		}
		texts = longer
	}
}

func TestNamesOf(t *testing.T) {
	lists := map[string][]string{
		"x":                           {"x"},
		"5":                           nil,
		"()":                          nil,
		"(b a b{1} (a c{2}) 3 ... _)": {"b", "a", "c", "...", "_"},
		"((z (y)) x z)":               {"z", "y", "x"},
	}
	for text, want := range lists {
		if got := impl.NamesOf(parse(t, text)); !slices.Equal(got, want) {
			t.Errorf("NamesOf %s = %q, want %q", text, got, want)
		}
	}
	odd := impl.Form{Kind: impl.KindName, Name: "B 1", Kids: []impl.Form{
		{Kind: impl.KindNum, Name: "n", Kids: []impl.Form{nameForm("in")}}, nameForm(""), {Kind: 9, Name: "k"}, nameForm("B 1"), nameForm("last"),
	}}
	if got := impl.NamesOf(odd); !slices.Equal(got, []string{"B 1", "in", "", "last"}) {
		t.Errorf("NamesOf an invalid form = %q", got)
	}
}

func TestStripForm(t *testing.T) {
	f := parse(t, "(let ((x{1} 1)) (x{2,5} ()) ...{3})")
	if got := impl.FormatForm(impl.StripForm(f)); got != "(let ((x 1)) (x ()) ...)" {
		t.Errorf("StripForm = %q", got)
	}
	if impl.FormatForm(f) != "(let ((x{1} 1)) (x{2,5} ()) ...{3})" {
		t.Error("StripForm changes its argument")
	}
	odd := impl.Form{Kind: 5, Name: "A", N: -7, Scopes: []int{3, 0}, Kids: []impl.Form{{Kind: impl.KindNum, N: 4, Scopes: []int{1}}}}
	want := impl.Form{Kind: 5, Name: "A", N: -7, Kids: []impl.Form{{Kind: impl.KindNum, N: 4}}}
	if got := impl.StripForm(odd); !impl.FormSame(got, want) {
		t.Errorf("StripForm of an invalid form = %v", got)
	}
}

func TestListForm(t *testing.T) {
	lists := map[string][]impl.Form{
		"()":            nil,
		"(x{3})":        {nameForm("x", 3)},
		"(1 () (a{1}))": {numForm(1), listForm(), listForm(nameForm("a", 1))},
	}
	for want, kids := range lists {
		f, ok := impl.ListForm(kids)
		if !ok || impl.FormatForm(f) != want {
			t.Errorf("ListForm = %v, %v, want %s", f, ok, want)
		}
	}
	for name, f := range invalidForms() {
		if g, ok := impl.ListForm([]impl.Form{numForm(1), f}); ok || !isZero(g) {
			t.Errorf("ListForm with %s = %v, %v", name, g, ok)
		}
	}
	for nodes, want := range map[int]bool{399: true, 400: false} {
		if f, ok := impl.ListForm([]impl.Form{wide(nodes)}); ok != want || isZero(f) == want {
			t.Errorf("ListForm of a form with %d nodes returns %v", nodes, ok)
		}
	}
	for depth, want := range map[int]bool{39: true, 40: false} {
		if f, ok := impl.ListForm([]impl.Form{nested(depth)}); ok != want || isZero(f) == want {
			t.Errorf("ListForm of a form with %d levels returns %v", depth, ok)
		}
	}
}

func TestFormResultsShareNoMemory(t *testing.T) {
	const text = "(a{1} (b{2,3} 4) ())"
	f := parse(t, text)
	other := parse(t, text)
	list, _ := impl.ListForm([]impl.Form{f, f})
	stripped := impl.StripForm(f)
	kids := parse(t, text).Kids
	spoil(kids[1])
	if impl.FormatForm(kids[0]) != "a{1}" || impl.FormatForm(kids[2]) != "()" {
		t.Error("parts of what ParseForm returns share memory")
	}
	spoil(list.Kids[0])
	spoil(other)
	if impl.FormatForm(f) != text || impl.FormatForm(list.Kids[1]) != text {
		t.Error("ListForm or ParseForm shares memory with an argument or another result")
	}
	spoil(stripped)
	if impl.FormatForm(f) != text {
		t.Error("StripForm shares memory with its argument")
	}
	names := impl.NamesOf(f)
	names[0] = "z"
	if impl.NamesOf(f)[0] != "a" {
		t.Error("NamesOf shares memory with another result")
	}
}

func TestFormsDoNotChangeMemoryBeyondLength(t *testing.T) {
	memory := []impl.Form{nameForm("a", 1), nameForm("b", 2), nameForm("c", 3)}
	scopes := []int{1, 2, 3}
	memory[0].Scopes = scopes[:1]
	f := listForm(memory[:1]...)
	impl.StripForm(f)
	impl.ListForm(f.Kids)
	impl.FormatForm(f)
	impl.NamesOf(f)
	if impl.FormatForm(listForm(memory...)) != "(a{1} b{2} c{3})" || !slices.Equal(scopes, []int{1, 2, 3}) {
		t.Error("memory beyond the length of an argument is changed")
	}
}

func TestFormsWithinThemselves(t *testing.T) {
	f := selfHolding()
	if impl.FormSize(f) != 0 || len(impl.NamesOf(f)) != 0 || !isZero(impl.StripForm(f)) {
		t.Error("FormSize, NamesOf or StripForm is not the zero value for an endless form")
	}
	if impl.FormSame(f, f) || impl.FormSame(f, nested(50)) || impl.FormSame(nested(50), f) {
		t.Error("FormSame is true for an endless form")
	}
	shared := []impl.Form{listForm(nameForm("x"))}
	twice := impl.Form{Kids: []impl.Form{{Kids: shared}, {Kids: shared}}}
	if impl.FormSize(twice) != 7 {
		t.Error("a form that is twice in another one is not endless")
	}
}

func TestFormsOfAnyDepth(t *testing.T) {
	const depth = 1000000
	f := nested(depth)
	if impl.FormValid(f) || impl.FormSize(f) != depth || len(impl.NamesOf(f)) != 0 {
		t.Error("FormValid, FormSize or NamesOf is wrong for a deep form")
	}
	if !impl.FormSame(f, impl.StripForm(f)) || impl.FormSame(f, nested(depth-1)) {
		t.Error("FormSame or StripForm is wrong for a deep form")
	}
}
