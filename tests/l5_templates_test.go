package tests

import (
	"slices"
	"strings"
	"testing"

	"loop.example/macroexpander/impl"
)

// hitsOf returns the hits of a pattern without literals that a form matches, both given as texts.
func hitsOf(t *testing.T, pattern string, form string) []impl.Hit {
	t.Helper()
	hits, ok := impl.MatchPattern(nil, parse(t, pattern), nil, parse(t, form))
	if !ok {
		t.Fatalf("%s does not match %s", form, pattern)
	}
	return hits
}

// fillCase tells what a template becomes with the hits of a form that matches a pattern.
type fillCase struct{ pattern, form, template, want string }

// noFill is what is wanted if a valid template can't be filled.
const noFill = "false"

func checkFills(t *testing.T, cases []fillCase) {
	t.Helper()
	for _, c := range cases {
		hits := hitsOf(t, c.pattern, c.form)
		template := parse(t, c.template)
		if !impl.TemplateValid(template, hits) {
			t.Errorf("TemplateValid of %s is false with the hits of %s as %s", c.template, c.form, c.pattern)
		}
		f, ok := impl.FillTemplate(template, hits)
		if got := formText(f, ok); got != c.want || !ok && !isZero(f) {
			t.Errorf("with the hits of %s as %s, %s becomes %s, want %s", c.form, c.pattern, c.template, got, c.want)
		}
	}
}

func TestFillTemplate(t *testing.T) {
	checkFills(t, []fillCase{
		{"_", "5", "x", "x"},
		{"_", "5", "7", "7"},
		{"_", "5", "()", "()"},
		{"_", "5", "(x{3} _ _{1} (0 ()))", "(x{3} _ _{1} (0 ()))"},
		{"a", "5", "a", "5"},
		{"a", "(1 (x))", "a", "(1 (x))"},
		{"a", "y{1,2}", "(a b a)", "(y{1,2} b y{1,2})"},
		{"(_ a b)", "(swap p q)", "(let ((tmp a)) (list b tmp))", "(let ((tmp p)) (list q tmp))"},
		{"(a b)", "(b a)", "(a b)", "(b a)"},
		{"(a b)", "(b a)", "(((b)) a (a b))", "(((a)) b (b a))"},
		{"(a b)", "(1 2)", "3", "3"},
		// Scopes make another name; those of a template stay, and those of a variable are gone.
		{"(a a{1})", "(1 2)", "(a a{1} a{2} a{1,2})", "(1 2 a{2} a{1,2})"},
		{"a{1}", "y{2}", "(a{1} a)", "(y{2} a)"},
		// What a variable has matched is no template.
		{"a", "...", "(x a)", "(x ...)"},
		{"a", "...", "a", "..."},
		{"a", "(... b ... ...)", "a", "(... b ... ...)"},
		{"(a b)", "(b a)", "a", "b"},
		{"(a ...)", "(... _ a)", "(a ...)", "(... _ a)"},
		{"(_ a b)", "(1 2 3)", "(_ a _ b)", "(_ 2 _ 3)"},
	})
}

func TestFillRows(t *testing.T) {
	checkFills(t, []fillCase{
		{"(_ a b ...)", "(or x y z)", "(if a 1 (or b ...))", "(if x 1 (or y z))"},
		{"(_ a b ...)", "(or x)", "(if a 1 (or b ...))", "(if x 1 (or))"},
		{"(_ (x v) ... b)", "(let (p 1) (q 2) (f p q))", "((lambda (x ...) b) v ...)", "((lambda (p q) (f p q)) 1 2)"},
		{"(a ...)", "()", "(a ...)", "()"},
		{"(a ...)", "()", "(1 (a) ... 2)", "(1 2)"},
		{"(a ...)", "(1)", "(a ...)", "(1)"},
		{"(a ...)", "(1 2 3)", "(a ...)", "(1 2 3)"},
		{"(a ...)", "(1 2 3)", "((a x a) ...)", "((1 x 1) (2 x 2) (3 x 3))"},
		{"(a ...)", "(1 2 3)", "(((a)) ...)", "(((1)) ((2)) ((3)))"},
		{"(a ...)", "(1 (2 x))", "(a ...{4} a ...{5,6})", "(1 (2 x) 1 (2 x))"},
		// Several rows of one list, with other forms around them.
		{"((a ...) (b ...))", "((1 2) (3))", "(x{3} a ... b ...)", "(x{3} 1 2 3)"},
		{"((a ...) (b ...))", "((1 2) ())", "(a ... 7 b ... 8 a ... 9)", "(1 2 7 8 1 2 9)"},
		{"((a ...) (b ...))", "((1 2) (3))", "((a ...) (b ...) (a ... b ...))", "((1 2) (3) (1 2 3))"},
		// Several variables of a row.
		{"((a b) ...)", "((1 2) (3 4))", "((b a) ...)", "((2 1) (4 3))"},
		{"((a ...) (b ...))", "((1 2) (3 4))", "((a b) ...)", "((1 3) (2 4))"},
		{"((a ...) (b ...))", "(() ())", "((a b) ...)", "()"},
		// A variable that is in no row, within a row.
		{"(a b ...)", "(x 1 2)", "((a b) ...)", "((x 1) (x 2))"},
		{"(a b ...)", "((y z) 1 2)", "((b a 0) ... a)", "((1 (y z) 0) (2 (y z) 0) (y z))"},
		{"(a b ...)", "(x)", "((a b) ...)", "()"},
		// One that is in a row has its form only there, and rows elsewhere do not count.
		{"((a ...) (b ...) c)", "((1 2) (3 4 5) x)", "((c a) ... (c b) ...)", "((x 1) (x 2) (x 3) (x 4) (x 5))"},
	})
}

func TestFillRowsInRows(t *testing.T) {
	checkFills(t, []fillCase{
		{"(_ (a b ...) ...)", "(m (x 1 2) (y))", "(m (a ...) ((a b ...) ...) z)", "(m (x y) ((x 1 2) (y)) z)"},
		{"((a ...) ...)", "((1 2) () (3))", "((a ...) ...)", "((1 2) () (3))"},
		{"((a ...) ...)", "((1 2) () (3))", "((x a ... y) ...)", "((x 1 2 y) (x y) (x 3 y))"},
		{"((a ...) ...)", "((1 2) () (3))", "(((a) ...) ...)", "(((1) (2)) () ((3)))"},
		{"((a ...) ...)", "()", "((a ...) ...)", "()"},
		// Two rows in one, and the same variable twice.
		{"((a ...) ...)", "((1 2) (3))", "((a ... 0 a ...) ...)", "((1 2 0 1 2) (3 0 3))"},
		{"(((a ...) (b ...)) ...)", "(((1 2) (3)) (() (4 5)))", "((a ... b ...) ...)", "((1 2 3) (4 5))"},
		{"(((a b) ...) ...)", "(((1 2) (3 4)) ((5 6)))", "((b ... (a ...)) ...)", "((2 4 (1 3)) (6 (5)))"},
		// A variable in fewer rows than around it keeps its form in the inner ones.
		{"((a b ...) ...)", "((x 1 2) (y 3) (z))", "(((a b) ...) ...)", "(((x 1) (x 2)) ((y 3)) ())"},
		{"(c (a b ...) ...)", "(w (x 1 2) (y 3))", "(((a b c) ...) ...)", "(((x 1 w) (x 2 w)) ((y 3 w)))"},
		{"((c ...) (b ...) ...)", "((x y) (1 2) (3))", "((c (c b) ...) ...)", "((x (x 1) (x 2)) (y (y 3)))"},
		// Three rows.
		{"(((a ...) ...) ...)", "(((1) ()) () ((2 3)))", "(((a ...) ...) ...)", "(((1) ()) () ((2 3)))"},
		{"(((a ...) ...) ...)", "(((1) ()) () ((2 3)))", "(x ((a ... 7) ... 8) ... 9)", "(x ((1 7) (7) 8) (8) ((2 3 7) 8) 9)"},
		{"(d (c (b a ...) ...) ...)", "(4 (3 (2 1 0) (5)) (6 (7 8)))", "((((a b c d) ...) ...) ...)", "((((1 2 3 4) (0 2 3 4)) ()) (((8 7 6 4))))"},
		{"(d (c (b a ...) ...) ...)", "(4 (3 (2 1 0) (5)) (6 (7 8)))", "((c (b c d) ...) ...)", "((3 (2 3 4) (5 3 4)) (6 (7 6 4)))"},
	})
}

func TestRowsOfSeveralLengths(t *testing.T) {
	checkFills(t, []fillCase{
		{"((a ...) (b ...))", "((1 2) (3))", "((a b) ...)", noFill},
		{"((a ...) (b ...))", "((1) (2 3))", "((a b) ...)", noFill},
		{"((a ...) (b ...))", "(() (2))", "((a b) ...)", noFill},
		{"((a ...) (b ...))", "((2) ())", "((a b) ...)", noFill},
		{"((a ...) (b ...) (c ...))", "((1 2) (3 4) (5))", "(((a) (b (c))) ...)", noFill},
		{"((a ...) (b ...))", "((1 2) (3))", "(a ... (x (y (b a) ...)))", noFill},
		// Only one of the inner rows.
		{"((a ...) (b ...) ...)", "((1 2) (3 4) (5))", "((a b ...) ...)", "((1 3 4) (2 5))"},
		{"(((a ...) (b ...)) ...)", "(((1) (2)) ((3) (4 5)))", "(((a b) ...) ...)", noFill},
		{"(((a ...) (b ...)) ...)", "(((1) (2)) ((3) (4)))", "(((a b) ...) ...)", "(((1 2)) ((3 4)))"},
		// Rows count that are within another row, of variables that are in more rows.
		{"((a ...) (b ...) ...)", "((1 2) (3))", "((a b ...) ...)", noFill},
		{"((a ...) (b ...) ...)", "((1) (3 4) (5))", "((a b ...) ...)", noFill},
		// Lengths do not count of what is not in the row, or is in no rows there.
		{"((a ...) (b ...) c)", "((1 2) (3) (4 5 6))", "((a c) ... b ...)", "((1 (4 5 6)) (2 (4 5 6)) 3)"},
		{"((a ...) (b ...) ...)", "((1 2) (3 4 5) (6))", "(((a b) ...) ...)", "(((1 3) (1 4) (1 5)) ((2 6)))"},
		// A row that is not filled has no lengths.
		{"((a ...) ((b ...) (c ...)) ...)", "(())", "(((b c) ...) ...)", "()"},
		{"(((a ...) ...) ((b ...) ...))", "(() ())", "(((a b) ...) ...)", "()"},
	})
}

// badTemplates tells of patterns and forms that match them which templates do not go with the hits.
func badTemplates() map[[2]string][]string {
	return map[[2]string][]string{
		{"_", "5"}: {
			"...", "...{1}", "(...)", "(... x)", "(...{2} x)", "(x ...)", "(5 ...)", "(() ...)", "((x) ... y)", "(_ ...)", "(x (... y))",
		},
		{"a", "5"}:     {"(a ...)", "(a ... x)", "((a) ...)", "(x (a ...))", "(a (x ...))"},
		{"(a)", "(5)"}: {"(a ...)", "(a{1} ...)"},
		{"(a b ...)", "(x 1 2)"}: {
			"b", "(b)", "(a b)", "((b) ... b)", "(b ... (b))", "(a ...)", "(a ... b ...)", "(b ... a ...)", "(b ... ...)", "(b ...{1} ...)",
			"(b ... ... a)", "((b ...) ...)", "((b ... b) ...)", "((a ... b) ...)", "((b x ...) ...)", "(b{1} ...)", "(... b ...)", "(... ...)",
			"((b ...) (... a))", "((...) ... b)", "((... b) ...)", "((x ...) b ...)", "(b ... x ...)",
		},
		{"((a b ...) ...)", "((x 1) (y))"}: {
			"a", "b", "(a)", "(b ...)", "((b) ...)", "((b ... b) ...)", "((a b) ...)", "(a ... b ...)", "((a ...) ...)", "(((a ...) b) ...)",
			"(a (b ...) ...)", "((b ...) ... b)", "(((b ...) ...) ...)", "(((a b) ...) (a) ...)", "((b ... a ...) ...)", "((b ... ...) ...)",
		},
		{"(((a ...) ...) ...)", "(((1)))"}: {
			"a", "(a ...)", "((a ...) ...)", "(((a) ...) ...)", "((((a ...) ...) ...) ...)", "((((a) ...) ...) (a) ...)", "(((a ... a) ...) ... a)",
		},
	}
}

func TestTemplatesRefused(t *testing.T) {
	for from, templates := range badTemplates() {
		hits := hitsOf(t, from[0], from[1])
		for _, text := range templates {
			if impl.TemplateValid(parse(t, text), hits) {
				t.Errorf("TemplateValid of %s is true with the hits of %s", text, from[0])
			}
			if f, ok := impl.FillTemplate(parse(t, text), hits); ok || !isZero(f) {
				t.Errorf("with the hits of %s, %s becomes %s", from[0], text, formText(f, ok))
			}
		}
	}
}

func TestTemplatesRefuseInvalidArguments(t *testing.T) {
	refused := func(what string, template impl.Form, hits []impl.Hit) {
		if impl.TemplateValid(template, hits) {
			t.Errorf("TemplateValid is true for %s", what)
		}
		if f, ok := impl.FillTemplate(template, hits); ok || !isZero(f) {
			t.Errorf("FillTemplate of %s = %v, %v", what, f, ok)
		}
	}
	for what, f := range invalidForms() {
		refused(what, f, nil)
		refused("a list with "+what, listForm(nameForm("a"), f), numbers(1))
		refused("a row of "+what, listForm(f, nameForm("...")), []impl.Hit{row(nameForm("x"), 1, numbers(2)...)})
	}
	for what, hits := range invalidHits() {
		for _, text := range []string{"z", "5", "()", "x", "(x ...)", "((y{1,2} ...) ...)"} {
			refused(text+" with "+what, parse(t, text), hits)
		}
	}
}

func TestTemplatesWithValidHits(t *testing.T) {
	for what, hits := range validHits() {
		if f, ok := impl.FillTemplate(numForm(7), hits); !ok || f.N != 7 || !impl.TemplateValid(numForm(7), hits) {
			t.Errorf("with %s, 7 becomes %v, %v", what, f, ok)
		}
		for _, h := range hits {
			template := h.Name
			for range h.Depth {
				template = listForm(template, nameForm("..."))
			}
			if !impl.TemplateValid(template, hits) {
				t.Errorf("with %s, %s is not valid", what, impl.FormatForm(template))
			}
		}
	}
}

// within returns inner within so many lists.
func within(lists int, inner impl.Form) impl.Form {
	for range lists {
		inner = listForm(inner)
	}
	return inner
}

func TestFillTemplateAtTheLimits(t *testing.T) {
	a, dots := nameForm("a"), nameForm("...")
	hitOfA := func(f impl.Form) []impl.Hit { return []impl.Hit{hit(a, f)} }
	// A row of n numbers, and one of n rows of n numbers.
	rowOf := func(n int) impl.Hit { return row(a, 1, slices.Repeat(hitOfA(numForm(7)), n)...) }
	rowsOf := func(n int) impl.Hit { return row(a, 2, slices.Repeat([]impl.Hit{rowOf(n)}, n)...) }
	cases := []struct {
		what     string
		template impl.Form
		hits     []impl.Hit
		size     int
	}{
		{"400 nodes of a template", wide(400), nil, 400},
		{"400 nodes of a hit", a, hitOfA(wide(400)), 400},
		{"a list of 399 nodes", listForm(a), hitOfA(wide(399)), 400},
		{"a list of 400 nodes", listForm(a), hitOfA(wide(400)), 0},
		{"twice 199 nodes", listForm(a, a, numForm(1)), hitOfA(wide(199)), 400},
		{"twice 200 nodes", listForm(a, a), hitOfA(wide(200)), 0},
		{"40 levels of a template", nested(40), nil, 40},
		{"40 levels of a hit", a, hitOfA(nested(40)), 40},
		{"a list of 39 levels", listForm(a), hitOfA(nested(39)), 40},
		{"a list of 40 levels", listForm(a), hitOfA(nested(40)), 0},
		{"39 levels around 1", within(39, a), hitOfA(numForm(1)), 40},
		{"39 levels around 2", within(39, a), hitOfA(listForm(numForm(1))), 0},
		{"20 levels around 20", within(20, a), hitOfA(nested(20)), 40},
		{"20 levels around 21", within(20, a), hitOfA(nested(21)), 0},
		{"39 levels beside 39", listForm(a, nested(39), a), hitOfA(nested(39)), 118},
		{"a row of 399", listForm(a, dots), []impl.Hit{rowOf(399)}, 400},
		{"a row of 400", listForm(a, dots), []impl.Hit{rowOf(400)}, 0},
		{"a row of 199 lists", listForm(numForm(1), listForm(a), dots), []impl.Hit{rowOf(199)}, 400},
		{"a row of 200 lists", listForm(listForm(a), dots), []impl.Hit{rowOf(200)}, 0},
		{"19 rows of 19", listForm(listForm(a, dots), dots), []impl.Hit{rowsOf(19)}, 381},
		{"20 rows of 20", listForm(listForm(a, dots), dots), []impl.Hit{rowsOf(20)}, 0},
		{"400 rows of 400", listForm(listForm(a, dots), dots), []impl.Hit{rowsOf(400)}, 0},
		{"two rows of 200", listForm(a, dots, a, dots), []impl.Hit{rowOf(200)}, 0},
		{"two rows of 199", listForm(a, dots, a, dots), []impl.Hit{rowOf(199)}, 399},
	}
	for _, c := range cases {
		f, ok := impl.FillTemplate(c.template, c.hits)
		if !impl.TemplateValid(c.template, c.hits) || ok != (c.size > 0) || impl.FormSize(f) != max(c.size, 1) || !ok && !isZero(f) {
			t.Errorf("FillTemplate of %s has %d nodes, and returns %v", c.what, impl.FormSize(f), ok)
		}
		if ok && !impl.FormValid(f) {
			t.Errorf("FillTemplate of %s returns no valid form", c.what)
		}
	}
}

func TestFillTemplateOfMuchWork(t *testing.T) {
	var rows []impl.Hit
	var text strings.Builder
	for _, name := range parseAll(t, "("+namesUpTo(20)+")") {
		rows = append(rows, row(name, 3, slices.Repeat([]impl.Hit{row(name, 2, slices.Repeat([]impl.Hit{row(name, 1)}, 3)...)}, 19)...))
		text.WriteString(" (" + name.Name + " ... x) " + strings.Repeat(name.Name+" ... ", 5))
	}
	template := parse(t, "((("+text.String()+") ...) ...)")
	if f, ok := impl.FillTemplate(template, rows); ok || !isZero(f) {
		t.Error("a template with many rows is filled with more than 400 nodes")
	}
	// Rows that add nothing are many here, as each list of the result has 198 of them.
	empty := row(nameForm("b"), 2, slices.Repeat([]impl.Hit{row(nameForm("b"), 1)}, 399)...)
	kids := slices.Repeat([]impl.Form{nameForm("b"), nameForm("...")}, 198)
	f, ok := impl.FillTemplate(listForm(listForm(kids...), nameForm("...")), []impl.Hit{empty})
	if !ok || len(f.Kids) != 399 || len(f.Kids[398].Kids) != 0 {
		t.Errorf("a row of lists of empty rows has %d lists, %v", len(f.Kids), ok)
	}
}

// eachPart visits the parts of a template, with the number of rows around each, and whether it is a row itself.
func eachPart(f impl.Form, rows int, isRow bool, visit func(part impl.Form, rows int, isRow bool)) {
	visit(f, rows, isRow)
	for i, kid := range f.Kids {
		beginsRow := i+1 < len(f.Kids) && f.Kids[i+1].Name == "..."
		inner := rows
		if isRow {
			inner++
		}
		eachPart(kid, inner, beginsRow, visit)
	}
}

// deepestIn returns the greatest depth of a variable in f.
func deepestIn(f impl.Form, depths map[string]int) int {
	deepest := 0
	eachPart(f, 0, false, func(part impl.Form, _ int, _ bool) { deepest = max(deepest, depths[part.Name]) })
	return deepest
}

// templateFits tells by its own means whether a form is a template for variables with these depths.
func templateFits(f impl.Form, depths map[string]int) bool {
	text := " " + strings.NewReplacer("(", "( ", ")", " )").Replace(impl.FormatForm(f)) + " "
	fits := text != " ... " && !strings.Contains(text, "( ... ") && !strings.Contains(text, " ... ... ")
	eachPart(f, 0, false, func(part impl.Form, rows int, isRow bool) {
		if isRow && deepestIn(part, depths) <= rows {
			fits = false
		}
		own := rows
		if isRow {
			own++
		}
		if depths[part.Name] > own {
			fits = false
		}
	})
	return fits
}

// along returns what a hit has at a path of places in rows, of which it takes only as many as it is in rows.
func along(h impl.Hit, path []int) impl.Hit {
	for _, place := range path {
		if h.Depth > 0 {
			h = h.Many[place]
		}
	}
	return h
}

// filledAt fills a part of a valid template by looking up each variable at the path of the rows around.
func filledAt(f impl.Form, hits map[string]impl.Hit, path []int) (string, bool) {
	if h, ok := hits[f.Name]; ok {
		return impl.FormatForm(along(h, path).One), true
	}
	if f.Kind != impl.KindList {
		return impl.FormatForm(f), true
	}
	var texts []string
	for i, kid := range f.Kids {
		if kid.Name == "..." {
			continue
		}
		paths := [][]int{path}
		if i+1 < len(f.Kids) && f.Kids[i+1].Name == "..." {
			times, ok := timesOf(kid, hits, path)
			if !ok {
				return "", false
			}
			paths = nil
			for place := range times {
				paths = append(paths, append(slices.Clone(path), place))
			}
		}
		for _, p := range paths {
			text, ok := filledAt(kid, hits, p)
			if !ok {
				return "", false
			}
			texts = append(texts, text)
		}
	}
	return "(" + strings.Join(texts, " ") + ")", true
}

// timesOf returns how many times a row is filled, and false if its variables differ in that.
func timesOf(f impl.Form, hits map[string]impl.Hit, path []int) (int, bool) {
	lengths := map[int]bool{}
	eachPart(f, 0, false, func(part impl.Form, _ int, _ bool) {
		if h := along(hits[part.Name], path); h.Depth > 0 {
			lengths[len(h.Many)] = true
		}
	})
	for length := range lengths {
		return length, len(lengths) == 1
	}
	return 0, false
}

func TestFillingAllShortTemplates(t *testing.T) {
	from := [][2]string{
		{"(a b)", "(1 (2))"},
		{"(a b ...)", "(1 2 3)"},
		{"(a b ...)", "(1)"},
		{"((a ...) (b ...))", "((1 2) (3 4))"},
		{"((a ...) (b ...))", "((1 2) (3))"},
		{"((a b ...) ...)", "((1 2 3) (4) (5 6))"},
		{"((a ...) (b ...) ...)", "((1 2) (3 4) (5 6))"},
		{"((a ...) (b ...) ...)", "((1) (3 4) (5 6))"},
		{"(((a ...) (b ...)) ...)", "(((1 2) (3 4)) (() ()))"},
		{"(((a ...) (b ...)) ...)", "(((1 2) (3 4)) ((5) ()))"},
		{"(((a ...) ... b) ...)", "(((1) () x) (y) ((2 3) z))"},
		{"(((a b ...) ...) ...)", "(((1 2 3) (4)) () ((5 6)))"},
		{"(((a ...) ...) ...)", "()"},
	}
	templates := append(formsOfTokens(8, "...", "a", "b"), formsOfTokens(7, "...", "a", "b", "7", "x")...)
	valid, filled := 0, 0
	for _, texts := range from {
		hits, depths, list := map[string]impl.Hit{}, map[string]int{}, hitsOf(t, texts[0], texts[1])
		for _, h := range list {
			hits[h.Name.Name], depths[h.Name.Name] = h, h.Depth
		}
		for _, template := range templates {
			fits := templateFits(template, depths)
			if impl.TemplateValid(template, list) != fits {
				t.Fatalf("TemplateValid of %s is %v with the hits of %s", impl.FormatForm(template), !fits, texts[0])
			}
			want := noFill
			if fits {
				valid++
				if text, ok := filledAt(template, hits, nil); ok {
					filled++
					want = text
				}
			}
			if got := formText(impl.FillTemplate(template, list)); got != want {
				t.Fatalf("with the hits of %s as %s, %s becomes %s, want %s", texts[1], texts[0], impl.FormatForm(template), got, want)
			}
		}
	}
	if filled < 1000 || valid-filled < 10 {
		t.Errorf("of %d valid templates, %d are filled", valid, filled)
	}
}

// TestPatternsAsTemplates fills patterns with their own hits, which makes the forms that have matched.
func TestPatternsAsTemplates(t *testing.T) {
	forms := formsOfTokens(7, "x", "1")
	times := 0
	for _, p := range append(formsOfTokens(8, "...", "a", "b"), formsOfTokens(7, "...", "1", "a", "b")...) {
		if !impl.PatternValid(p, nil) {
			continue
		}
		for _, f := range forms {
			hits, ok := impl.MatchPattern(nil, p, nil, f)
			if !ok || !impl.TemplateValid(p, hits) {
				continue
			}
			times++
			if got := formText(impl.FillTemplate(p, hits)); got != impl.FormatForm(f) {
				t.Fatalf("%s with its hits of %s becomes %s", impl.FormatForm(p), impl.FormatForm(f), got)
			}
		}
	}
	if times < 1000 {
		t.Errorf("only %d patterns are filled", times)
	}
}

func TestFillingSharesNoMemory(t *testing.T) {
	hits := roomyHits()
	template := roomyCopy(parse(t, "(k{4,5} x{1,2} (y{3} x{1,2} (q{6})) ... x{1,2} y{3} ... 5 ())"))
	before := memoryOfForm(template) + memoryOfHits(hits)
	const want = "(k{4,5} (a{1} (2)) ((a{1} (2)) (a{1} (2)) (q{6})) (x{1,2} (a{1} (2)) (q{6})) (a{1} (2)) (a{1} (2)) x{1,2} 5 ())"
	first, ok := impl.FillTemplate(template, hits)
	again, _ := impl.FillTemplate(template, hits)
	if got := formText(first, ok); got != want || !impl.TemplateValid(template, hits) {
		t.Fatalf("the template becomes %s, want %s", got, want)
	}
	if memoryOfForm(template)+memoryOfHits(hits) != before {
		t.Fatal("an argument, or memory beyond its length, is changed")
	}
	checkPartsApart(t, first)
	if memoryOfForm(template)+memoryOfHits(hits) != before {
		t.Error("the result shares memory with an argument")
	}
	if impl.FormatForm(again) != want {
		t.Error("the result shares memory with another one")
	}
	// A template that is only a variable, and one that is only a name.
	for _, text := range []string{"x{1,2}", "k{4,5}", "()"} {
		alone := roomyCopy(parse(t, text))
		memory := memoryOfForm(alone)
		f, _ := impl.FillTemplate(alone, hits)
		spoil(f)
		if memoryOfForm(alone) != memory || memoryOfForm(template)+memoryOfHits(hits) != before {
			t.Errorf("what %s becomes shares memory with an argument", text)
		}
	}
}

// checkPartsApart spoils all parts of f in order, which must leave those behind them as they are.
func checkPartsApart(t *testing.T, f impl.Form) {
	t.Helper()
	for i := range f.Kids {
		checkPartsApart(t, f.Kids[i])
		later := textOf(f.Kids[i+1:])
		spoil(f.Kids[i])
		if textOf(f.Kids[i+1:]) != later {
			t.Errorf("parts of a form share memory, behind its part %d", i)
		}
	}
	spoil(f)
}

func TestFillingKeepsNoState(t *testing.T) {
	template := parse(t, "((a b) ...)")
	fills := []fillCase{
		{"((a ...) (b ...))", "((1 2) (3 4))", "((a b) ...)", "((1 3) (2 4))"},
		{"((a ...) (b ...))", "((1 2) (3))", "((a b) ...)", noFill},
		{"(a b ...)", "(x 3 4)", "((a b) ...)", "((x 3) (x 4))"},
		{"((a ...) b)", "((1 2) x)", "((a b) ...)", "((1 x) (2 x))"},
	}
	for range 20 {
		checkFills(t, fills)
		if impl.TemplateValid(template, nil) || impl.TemplateValid(template, hitsOf(t, "(a b)", "(1 2)")) {
			t.Fatal("TemplateValid is true without a row of hits")
		}
	}
}
