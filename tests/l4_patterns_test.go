package tests

import (
	"maps"
	"slices"
	"strconv"
	"strings"
	"testing"

	"loop.example/macroexpander/impl"
)

// namesUpTo returns the text of so many different names.
func namesUpTo(n int) string {
	var text strings.Builder
	for i := range n {
		text.WriteString(" v" + strconv.Itoa(i))
	}
	return text.String()
}

// patternCase tells of a valid pattern with literals what its variables are, and in how many rows each is.
type patternCase struct {
	pattern, literals, vars string
	depths                  []int
}

func validPatterns() []patternCase {
	return []patternCase{
		{"5", "()", "()", nil},
		{"()", "()", "()", nil},
		{"_", "()", "()", nil},
		{"_{1,2}", "()", "()", nil},
		{"x", "()", "(x)", []int{0}},
		{"x{3}", "()", "(x{3})", []int{0}},
		{"(_ (x v) ... body)", "()", "(x v body)", []int{1, 1, 0}},
		{"(z y (x w) 7 ())", "()", "(z y x w)", []int{0, 0, 0, 0}},
		{"(_ (a (b ...) ...) ... z)", "()", "(a b z)", []int{1, 3, 0}},
		{"(((a ...) ... b) ...)", "()", "(a b)", []int{3, 1}},
		// Scopes make another name, but `...` and `_` stay what they are.
		{"(a a{1} _ _ a{1,2})", "()", "(a a{1} a{1,2})", []int{0, 0, 0}},
		{"(a ...{4} b)", "()", "(a b)", []int{1, 0}},
		{"(_ _ ...)", "()", "()", nil},
		{"(5 ...)", "()", "()", nil},
		{"(() ... x)", "()", "(x)", []int{0}},
		// Each list has dots of its own.
		{"((a ...) (b ...) c ...)", "()", "(a b c)", []int{1, 1, 1}},
		{"(a ... (b ... (c ...)))", "()", "(a b c)", []int{1, 1, 1}},
		// Literals are no variables, and can be there more than once.
		{"(_ a else b)", "(else)", "(a b)", []int{0, 0}},
		{"(else else (else ...))", "(else)", "()", nil},
		{"(else{1} else)", "(else)", "(else{1})", []int{0}},
		{"(else{1} else)", "(else{1})", "(else)", []int{0}},
		{"else", "(else)", "()", nil},
		{"(a b c)", "(c a b z)", "()", nil},
		{"(a b)", "(a{1} a{2} b{1})", "(a b)", []int{0, 0}},
		{"x", "(a b c d e f g h i)", "(x)", []int{0}},
		// Limits.
		{"(" + namesUpTo(20) + ")", "()", "(" + namesUpTo(20) + ")", make([]int, 20)},
		{"(" + namesUpTo(20) + " else _ _ else 1)", "(else)", "(" + namesUpTo(20) + ")", make([]int, 20)},
		{"(((a ...) ...) ...)", "()", "(a)", []int{3}},
		{"((((_ ...) ...) ...) ...)", "()", "()", nil},
		{"(((((5 else ...) ...) ...) ...) ...)", "(else)", "()", nil},
		{"((((5 ...) a) ...) ... b)", "()", "(a b)", []int{2, 0}},
	}
}

func TestPatternVariables(t *testing.T) {
	for _, c := range validPatterns() {
		p, literals := parse(t, c.pattern), parseAll(t, c.literals)
		if !impl.PatternValid(p, literals) {
			t.Errorf("PatternValid is false for %s with %s", c.pattern, c.literals)
		}
		if got, want := textOf(impl.PatternVars(p, literals)), impl.FormatForm(parse(t, c.vars)); got != want {
			t.Errorf("PatternVars of %s with %s = %s, want %s", c.pattern, c.literals, got, want)
		}
		if got := impl.VarDepths(p, literals); !slices.Equal(got, c.depths) {
			t.Errorf("VarDepths of %s with %s = %v, want %v", c.pattern, c.literals, got, c.depths)
		}
	}
}

// badPattern is a pattern that does not go with its literals.
type badPattern struct {
	pattern  impl.Form
	literals []impl.Form
}

func badPatterns(t *testing.T) map[string]badPattern {
	bad := map[string]badPattern{}
	for what, f := range invalidForms() {
		bad[what] = badPattern{f, nil}
		bad["x, with the literal "+what] = badPattern{nameForm("x"), []impl.Form{nameForm("a"), f}}
	}
	texts := []string{
		"...", "...{1}", "(...)", "(... a)", "(...{2} a)", "(a ... ...)", "(a ...{1} ...)", "(a ... b ...)", "(a ... b c ...)", "(_ ... 1 ...)",
		"(a (... b))", "(a ... (b ... c ...))", "((...) ...)", "(a a)", "(_ (a b) (c (a)))", "(a ... a)", "(a{1} b a{1})", "(((a ...) b) c a)",
		"((((a ...) ...) ...) ...)", "(b (((((a) ...) ...) ...) ...))", "(" + namesUpTo(21) + ")", "((" + namesUpTo(20) + ") ... v20)",
	}
	for _, text := range texts {
		bad[text] = badPattern{parse(t, text), nil}
	}
	for _, text := range []string{"(_)", "(...)", "(_{1})", "(a ...{1})", "(a a)", "(a{1} b a{1})", "(5)", "(())", "((a))", "(a b c d e f g h i j)"} {
		bad["x, with the literals "+text] = badPattern{nameForm("x"), parseAll(t, text)}
	}
	bad["x, with many literals"] = badPattern{nameForm("x"), make([]impl.Form, 1000000)}
	return bad
}

func TestPatternsRefused(t *testing.T) {
	for what, c := range badPatterns(t) {
		if impl.PatternValid(c.pattern, c.literals) {
			t.Errorf("PatternValid is true for %s", what)
		}
		if vars := impl.PatternVars(c.pattern, c.literals); len(vars) != 0 {
			t.Errorf("PatternVars of %s = %v", what, vars)
		}
		if depths := impl.VarDepths(c.pattern, c.literals); len(depths) != 0 {
			t.Errorf("VarDepths of %s = %v", what, depths)
		}
		for _, text := range []string{"()", "x", "(a)", "(1 1)"} {
			if hits, ok := impl.MatchPattern(nil, c.pattern, c.literals, parse(t, text)); ok || len(hits) != 0 {
				t.Errorf("MatchPattern of %s with %s = %v, %v", text, what, hits, ok)
			}
		}
	}
}

// hitText shows of a hit all but the Names of those in Many, which it checks to be as they must.
func hitText(h impl.Hit) string {
	return impl.FormatForm(h.Name) + "=" + depthText(h, h.Name, h.Depth)
}

func depthText(h impl.Hit, name impl.Form, depth int) string {
	if h.Depth != depth || !impl.FormSame(h.Name, name) {
		return "wrong"
	}
	if depth == 0 && len(h.Many) == 0 {
		return impl.FormatForm(h.One)
	}
	if !isZero(h.One) {
		return "wrong"
	}
	var parts []string
	for _, part := range h.Many {
		parts = append(parts, depthText(part, name, depth-1))
	}
	return strconv.Itoa(depth) + "[" + strings.Join(parts, " ") + "]"
}

func hitsText(hits []impl.Hit) string {
	var texts []string
	for _, h := range hits {
		texts = append(texts, hitText(h))
	}
	return strings.Join(texts, " ")
}

// noMatch is what matchText returns if there is none.
const noMatch = "none"

func matchText(list []impl.Bind, p impl.Form, literals []impl.Form, f impl.Form) string {
	hits, ok := impl.MatchPattern(list, p, literals, f)
	switch {
	case !ok && len(hits) != 0:
		return "hits of no match"
	case !ok:
		return noMatch
	case !impl.HitsValid(hits):
		return "invalid hits"
	}
	return hitsText(hits)
}

// matchCase tells how a form matches a pattern without literals.
type matchCase struct{ pattern, form, want string }

func checkMatches(t *testing.T, cases []matchCase) {
	t.Helper()
	for _, c := range cases {
		if got := matchText(nil, parse(t, c.pattern), nil, parse(t, c.form)); got != c.want {
			t.Errorf("%s matches %s as %q, want %q", c.form, c.pattern, got, c.want)
		}
	}
}

func TestMatchPattern(t *testing.T) {
	checkMatches(t, []matchCase{
		{"x", "y{1}", "x=y{1}"},
		{"x", "5", "x=5"},
		{"x", "...", "x=..."},
		{"x{2}", "(a (b) 3)", "x{2}=(a (b) 3)"},
		{"_", "(a (b) 3)", ""},
		{"_{1}", "7", ""},
		{"5", "5", ""},
		{"5", "6", noMatch},
		{"5", "x", noMatch},
		{"5", "(5)", noMatch},
		{"0", "()", noMatch},
		{"()", "()", ""},
		{"()", "(a)", noMatch},
		{"()", "x", noMatch},
		{"()", "0", noMatch},
		{"(a)", "a", noMatch},
		{"(a b)", "(1 (2))", "a=1 b=(2)"},
		{"(a b)", "(1)", noMatch},
		{"(a b)", "(1 2 3)", noMatch},
		{"(a 2 b)", "(1 2 3)", "a=1 b=3"},
		{"(a 2 b)", "(1 3 3)", noMatch},
		{"(a (b c) d)", "(1 (2 3) 4)", "a=1 b=2 c=3 d=4"},
		{"(a (b c) d)", "(1 (2) 4)", noMatch},
		{"(a a{1})", "(1 2)", "a=1 a{1}=2"},
	})
}

func TestMatchingRows(t *testing.T) {
	checkMatches(t, []matchCase{
		// A row that matches nothing.
		{"(a ...)", "()", "a=1[]"},
		{"((a ...) ...)", "()", "a=2[]"},
		{"(((a ...) b ...) ...)", "()", "a=2[] b=2[]"},
		{"(((a ...) ...) ...)", "(() (()))", "a=3[2[] 2[1[]]]"},
		{"(_ (x v) ... body)", "(let b)", "x=1[] v=1[] body=b"},
		{"(5 ...)", "()", ""},
		// Rows with forms.
		{"(a ...)", "(1)", "a=1[1]"},
		{"(a ...)", "(1 x (2))", "a=1[1 x (2)]"},
		{"(a ...)", "x", noMatch},
		{"(a ...{3})", "(1 2)", "a=1[1 2]"},
		{"(5 ...)", "(5 5 5)", ""},
		{"(5 ...)", "(5 5 6)", noMatch},
		{"(5 ...)", "(6 5)", noMatch},
		{"(_ ...)", "(1 x ())", ""},
		{"((a b) ...)", "((1 2) (3 4))", "a=1[1 3] b=1[2 4]"},
		{"((a b) ...)", "((1 2) (3))", noMatch},
		{"((a b) ...)", "((1 2) 3)", noMatch},
		{"(_ (x v) ... body)", "(let (p 1) (q 2) (f p q))", "x=1[p q] v=1[1 2] body=(f p q)"},
		// A row in front of other patterns, which leaves a form for each of them.
		{"(a ... b)", "(1)", "a=1[] b=1"},
		{"(a ... b)", "(1 2 3)", "a=1[1 2] b=3"},
		{"(a ... b)", "()", noMatch},
		{"(a ... b c)", "(1 2)", "a=1[] b=1 c=2"},
		{"(a ... b c)", "(1 2 3)", "a=1[1] b=2 c=3"},
		{"(a ... b c)", "(1)", noMatch},
		{"(a b ... c)", "(1 2)", "a=1 b=1[] c=2"},
		{"(a b ... c)", "(1)", noMatch},
		{"(a b ... c)", "(1 2 3 4 5)", "a=1 b=1[2 3 4] c=5"},
		{"(a b c ... d e)", "(1 2 3 4 5 6)", "a=1 b=2 c=1[3 4] d=5 e=6"},
		{"(a ... 5)", "(5 5 5)", "a=1[5 5]"},
		{"(a ... 5)", "(5 5 6)", noMatch},
		{"(5 ... a)", "(5 5 5)", "a=5"},
		{"(5 ... a)", "(5 6 7)", noMatch},
		{"(5 ... a 6)", "(5 5 1 6)", "a=1"},
		{"((a) ... b)", "((1) (2) (3))", "a=1[1 2] b=(3)"},
	})
}

func TestMatchingRowsInRows(t *testing.T) {
	checkMatches(t, []matchCase{
		{"((a ...) ...)", "((1 2) () (3))", "a=2[1[1 2] 1[] 1[3]]"},
		{"((a b ...) ... c)", "((1) (2 3 4) 5)", "a=1[1 2] b=2[1[] 1[3 4]] c=5"},
		{"((a ... b) ...)", "((1) (2 3 4))", "a=2[1[] 1[2 3]] b=1[1 4]"},
		{"((a ... b) ...)", "((1) ())", noMatch},
		{"(((a ...) ...) ...)", "(((1) ()) () ((2 3)))", "a=3[2[1[1] 1[]] 2[] 2[1[2 3]]]"},
		{"((((_ ...) ...) ...) ...)", "((((1))))", ""},
		{"((((5 ...) ...) ...) ...)", "(((5)))", noMatch},
		{"((((5 ...) ...) ...) ...)", "(((())))", ""},
		{"(((a ...) (b ...)) ...)", "(((1) ()) (() (2 3)))", "a=2[1[1] 1[]] b=2[1[] 1[2 3]]"},
	})
}

func TestMatchingLiterals(t *testing.T) {
	// x{1} and y stand for the same; of z{1,2}, no binding has the scopes of both others.
	list := []impl.Bind{bind("x", 1), bind("x", 2, 1), bind("y", 2), bind("z", 3, 1), bind("z", 4, 2)}
	cases := []struct{ literals, pattern, form, want string }{
		// Without a binding, only the Name counts.
		{"(else)", "(_ a else b)", "(m 1 else 2)", "a=1 b=2"},
		{"(else)", "else", "else{1,7}", ""},
		{"(else{5})", "else{5}", "else", ""},
		{"(else)", "else", "other", noMatch},
		{"(else)", "else", "5", noMatch},
		{"(else)", "else", "(else)", noMatch},
		{"(else)", "else", "()", noMatch},
		// With one, what it stands for counts.
		{"(x)", "x", "x", ""},
		{"(x)", "x", "x{3}", ""},
		{"(x)", "x", "x{1}", noMatch},
		{"(x)", "x", "y", noMatch},
		{"(x)", "x", "else", noMatch},
		{"(x{1})", "x{1}", "x{1,2}", ""},
		{"(x{1})", "x{1}", "y", ""},
		{"(x{1})", "x{1}", "y{2}", ""},
		{"(x{1})", "x{1}", "x", noMatch},
		{"(y)", "y", "x{1,9}", ""},
		{"(else)", "else", "x", noMatch},
		{"(z)", "z", "z", ""},
		{"(z)", "z", "z{1}", noMatch},
		{"(z)", "z", "z{1,2}", noMatch},
		{"(z{1,2})", "z{1,2}", "z{1,2}", noMatch},
		// A name with other scopes than a literal is a variable.
		{"(x)", "x{1}", "y", "x{1}=y"},
		{"(x{1})", "(x x{1})", "(5 y)", "x=5"},
		{"(x{1})", "(x x{1})", "(5 x)", noMatch},
		// Any of several literals, and one in several places.
		{"(x else)", "(else x a)", "(else x 3)", "a=3"},
		{"(x else)", "(else x a)", "(x else 3)", noMatch},
		{"(else)", "(else else)", "(else else{1})", ""},
		{"(else)", "(else else)", "(else 1)", noMatch},
		// Rows.
		{"(else)", "(else ...)", "(else else{2} else)", ""},
		{"(else)", "(else ...)", "()", ""},
		{"(else)", "(else ...)", "(else x else)", noMatch},
		{"(x)", "(a ... x)", "(x x x{1})", noMatch},
		{"(x)", "(a ... x)", "(x x{1} x)", "a=1[x x{1}]"},
		{"(else)", "((else a) ... b)", "((else 1) (else 2) else)", "a=1[1 2] b=else"},
	}
	for _, c := range cases {
		if got := matchText(list, parse(t, c.pattern), parseAll(t, c.literals), parse(t, c.form)); got != c.want {
			t.Errorf("with the literals %s, %s matches %s as %q, want %q", c.literals, c.form, c.pattern, got, c.want)
		}
	}
}

func TestMatchPatternRefuses(t *testing.T) {
	refused := func(list []impl.Bind, p impl.Form, literals []impl.Form, f impl.Form) bool {
		return matchText(list, p, literals, f) == noMatch
	}
	literals := []impl.Form{nameForm("else")}
	for what, list := range invalidBinds() {
		for _, text := range []string{"_", "x", "()", "5", "else"} {
			if !refused(list, parse(t, text), literals, parse(t, text)) {
				t.Errorf("%s matches itself with %s", text, what)
			}
		}
	}
	for what, f := range invalidForms() {
		for _, text := range []string{"_", "x", "(x ...)", "5", "else"} {
			if !refused(nil, parse(t, text), literals, f) || !refused(nil, listForm(parse(t, text)), literals, listForm(f)) {
				t.Errorf("%s matches %s", what, text)
			}
		}
		if !refused(nil, f, nil, f) {
			t.Errorf("%s matches itself", what)
		}
	}
}

func TestMatchingAtTheLimits(t *testing.T) {
	hits, ok := impl.MatchPattern(nil, parse(t, "(a ...)"), nil, wide(400))
	if !ok || len(hits) != 1 || len(hits[0].Many) != 399 || !impl.HitsValid(hits) {
		t.Error("a row does not match 399 forms")
	}
	hits, ok = impl.MatchPattern(manyBinds(60), parse(t, "(x ... a)"), []impl.Form{nameForm("x")}, wide(400))
	if !ok || len(hits) != 1 || impl.FormatForm(hits[0].One) != "x" {
		t.Error("a row of a literal does not match 398 names")
	}
	hits, ok = impl.MatchPattern(nil, wide(3), nil, wide(3))
	if ok || len(hits) != 0 {
		t.Error("a pattern with a variable twice matches")
	}
	hits, ok = impl.MatchPattern(nil, nested(40), nil, nested(40))
	if !ok || len(hits) != 0 {
		t.Error("a pattern with 40 levels does not match itself")
	}
	vars := "(" + namesUpTo(20) + ")"
	hits, ok = impl.MatchPattern(nil, listForm(parse(t, vars), nameForm("...")), nil, listForm(slices.Repeat([]impl.Form{parse(t, vars)}, 19)...))
	if !ok || len(hits) != 20 || len(hits[19].Many) != 19 || impl.FormatForm(hits[19].Many[18].One) != "v19" {
		t.Error("a row of 20 variables does not match 19 times")
	}
	exact := listForm(slices.Repeat([]impl.Form{nameForm("_")}, 399)...)
	if matchText(nil, exact, nil, wide(400)) != "" || matchText(nil, exact, nil, wide(399)) != noMatch {
		t.Error("399 times `_` does not match 399 forms, or matches fewer")
	}
}

// waysToMatch tries all ways in which f can match a pattern with the literal l, without bindings: for a row, each
// number of forms. Each way is the texts of the forms of each variable, as hitText shows them.
func waysToMatch(p impl.Form, f impl.Form) []map[string]string {
	switch {
	case p.Kind == impl.KindName && p.Name == "l":
		return waysIf(f.Kind == impl.KindName && f.Name == "l")
	case p.Kind == impl.KindName && p.Name == "_":
		return waysIf(true)
	case p.Kind == impl.KindName:
		return []map[string]string{{p.Name: impl.FormatForm(f)}}
	case p.Kind == impl.KindNum:
		return waysIf(impl.FormatForm(p) == impl.FormatForm(f))
	}
	if f.Kind != impl.KindList {
		return nil
	}
	return waysOfKids(p.Kids, f.Kids)
}

func waysIf(matches bool) []map[string]string {
	if matches {
		return []map[string]string{{}}
	}
	return nil
}

func waysOfKids(patterns []impl.Form, forms []impl.Form) []map[string]string {
	if len(patterns) == 0 {
		return waysIf(len(forms) == 0)
	}
	var ways []map[string]string
	if len(patterns) > 1 && patterns[1].Name == "..." {
		for count := range len(forms) + 1 {
			ways = append(ways, waysTogether(waysOfRow(patterns[0], forms[:count]), waysOfKids(patterns[2:], forms[count:]))...)
		}
		return ways
	}
	if len(forms) == 0 {
		return nil
	}
	return waysTogether(waysToMatch(patterns[0], forms[0]), waysOfKids(patterns[1:], forms[1:]))
}

func waysTogether(some []map[string]string, others []map[string]string) []map[string]string {
	var ways []map[string]string
	for _, a := range some {
		for _, b := range others {
			way := maps.Clone(a)
			maps.Copy(way, b)
			ways = append(ways, way)
		}
	}
	return ways
}

// rowsAround returns in how many rows of p, which is in some already, each of its variables is.
func rowsAround(p impl.Form, rows int) map[string]int {
	all := map[string]int{}
	if p.Kind == impl.KindName && p.Name != "..." && p.Name != "_" && p.Name != "l" {
		all[p.Name] = rows
	}
	for i, kid := range p.Kids {
		inner := rows
		if i+1 < len(p.Kids) && p.Kids[i+1].Name == "..." {
			inner++
		}
		maps.Copy(all, rowsAround(kid, inner))
	}
	return all
}

func waysOfRow(row impl.Form, forms []impl.Form) []map[string]string {
	depths := rowsAround(row, 1)
	ways := []map[string][]string{{}}
	for _, f := range forms {
		var longer []map[string][]string
		for _, way := range ways {
			for _, next := range waysToMatch(row, f) {
				both := map[string][]string{}
				for name := range depths {
					both[name] = append(slices.Clone(way[name]), next[name])
				}
				longer = append(longer, both)
			}
		}
		ways = longer
	}
	var texts []map[string]string
	for _, way := range ways {
		text := map[string]string{}
		for name, depth := range depths {
			text[name] = strconv.Itoa(depth) + "[" + strings.Join(way[name], " ") + "]"
		}
		texts = append(texts, text)
	}
	return texts
}

// formsOfTokens returns the forms with the shortest texts: of at most so many tokens, each out of atoms or a bracket.
func formsOfTokens(most int, atoms ...string) []impl.Form {
	var all []impl.Form
	texts := []string{""}
	for range most {
		var longer []string
		for _, text := range texts {
			for _, token := range append([]string{"(", ")"}, atoms...) {
				longer = append(longer, text+" "+token)
			}
		}
		for _, text := range longer {
			if f, ok := impl.ParseForm(text); ok {
				all = append(all, f)
			}
		}
		// What is a form, or can't begin one, is no beginning of another one.
		texts = slices.DeleteFunc(longer, func(text string) bool {
			return strings.Count(text, "(") <= strings.Count(text, ")")
		})
	}
	return all
}

func TestFormsMatchInOneWay(t *testing.T) {
	literals := []impl.Form{nameForm("l")}
	forms := formsOfTokens(7, "l", "1")
	matches := 0
	for _, p := range append(formsOfTokens(8, "...", "a", "b"), formsOfTokens(7, "...", "_", "l", "1", "a")...) {
		if !impl.PatternValid(p, literals) {
			continue
		}
		for _, f := range forms {
			got := matchText(nil, p, literals, f)
			ways := waysToMatch(p, f)
			if len(ways) > 1 {
				t.Fatalf("%s matches %s in %d ways", impl.FormatForm(f), impl.FormatForm(p), len(ways))
			}
			want := noMatch
			if len(ways) == 1 {
				matches++
				want = wayText(ways[0], impl.PatternVars(p, literals))
			}
			if got != want {
				t.Fatalf("%s matches %s as %q, want %q", impl.FormatForm(f), impl.FormatForm(p), got, want)
			}
		}
	}
	if matches < 1000 {
		t.Errorf("only %d forms match", matches)
	}
}

func wayText(way map[string]string, vars []impl.Form) string {
	var texts []string
	for _, v := range vars {
		texts = append(texts, v.Name+"="+way[v.Name])
	}
	return strings.Join(texts, " ")
}

// patternFits tells by its own means whether a form of the names `...`, `_`, a and b is a pattern.
func patternFits(p impl.Form) bool {
	text := " " + strings.NewReplacer("(", "( ", ")", " )").Replace(impl.FormatForm(p)) + " "
	for _, bad := range []string{"( ... ", " ... ... "} {
		if strings.Contains(text, bad) {
			return false
		}
	}
	counts, times := []int{0}, map[string]int{}
	for _, token := range strings.Fields(text) {
		switch token {
		case "(":
			counts = append(counts, 0)
		case ")":
			counts = counts[:len(counts)-1]
		case "...":
			counts[len(counts)-1]++
		case "a", "b":
			times[token]++
		}
		if counts[len(counts)-1] > 1 {
			return false
		}
	}
	deepest := 0
	for _, rows := range rowsAround(p, 0) {
		deepest = max(deepest, rows)
	}
	return counts[0] == 0 && times["a"] < 2 && times["b"] < 2 && deepest <= 3
}

func TestPatternValidOfAllShortForms(t *testing.T) {
	for _, p := range formsOfTokens(8, "...", "_", "a", "b") {
		if got := impl.PatternValid(p, nil); got != patternFits(p) {
			t.Fatalf("PatternValid of %s is %v", impl.FormatForm(p), got)
		}
	}
}

func TestMatchingSharesNoMemory(t *testing.T) {
	p := roomyCopy(parse(t, "(_ else{7} (x{1,2} v ...) ... body{3})"))
	f := roomyCopy(parse(t, "(let{1} else{7} (p{4} 1 (2)) (q{5}) (f{6} p q))"))
	literals := roomyCopy(parse(t, "(else{7} other{8})")).Kids
	list := roomyBinds()
	memory := func() string {
		return memoryOfForm(p) + memoryOfForm(f) + memoryOfForm(listForm(literals[:cap(literals)]...)) + memoryOf(list)
	}
	before := memory()
	hits, _ := impl.MatchPattern(list, p, literals, f)
	again, _ := impl.MatchPattern(list, p, literals, f)
	vars, varsAgain := impl.PatternVars(p, literals), impl.PatternVars(p, literals)
	depths, depthsAgain := impl.VarDepths(p, literals), impl.VarDepths(p, literals)
	const hitsWant, varsWant = "x{1,2}=1[p{4} q{5}] v=2[1[1 (2)] 1[]] body{3}=(f{6} p q)", "(x{1,2} v body{3})"
	if hitsText(hits) != hitsWant || textOf(vars) != varsWant || !slices.Equal(depths, []int{1, 2, 0}) {
		t.Fatalf("the results are %s, %s and %v", hitsText(hits), textOf(vars), depths)
	}
	for i := range vars {
		spoil(vars[i])
		if textOf(vars[i+1:]) != textOf(varsAgain[i+1:]) {
			t.Error("parts of what PatternVars returns share memory")
		}
	}
	spoilForms(vars)
	spoilHits(hits)
	spoilPlaces(depths)
	if memory() != before {
		t.Error("an argument, or memory beyond its length, is changed or shared by a result")
	}
	if hitsText(again) != hitsWant || textOf(varsAgain) != varsWant || !slices.Equal(depthsAgain, []int{1, 2, 0}) {
		t.Error("a result shares memory with another one")
	}
}

func TestMatchingKeepsNoState(t *testing.T) {
	p, f := parse(t, "((a b ...) ... else)"), parse(t, "((1 2) (3) else{1})")
	list, literals := bindAll(t, "else{1}"), parseAll(t, "(else)")
	for range 20 {
		if got := matchText(nil, p, literals, f); got != "a=1[1 3] b=2[1[2] 1[]]" {
			t.Fatalf("without bindings, the hits are %s", got)
		}
		if got := matchText(list, p, literals, f); got != noMatch {
			t.Fatalf("with another binding, the hits are %s", got)
		}
		if got := matchText(list, p, nil, f); got != "a=1[1 3] b=2[1[2] 1[]] else=else{1}" {
			t.Fatalf("without literals, the hits are %s", got)
		}
	}
}
