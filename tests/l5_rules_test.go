package tests

import (
	"slices"
	"strconv"
	"strings"
	"testing"

	"loop.example/macroexpander/impl"
)

// rulesOf returns the rules in a list of lists of two forms, given as a text.
func rulesOf(t *testing.T, text string) []impl.Rule {
	t.Helper()
	var rules []impl.Rule
	for _, pair := range parseAll(t, text) {
		rules = append(rules, impl.Rule{Pattern: pair.Kids[0], Template: pair.Kids[1]})
	}
	return rules
}

func rulesText(rules []impl.Rule) string {
	var texts []string
	for _, r := range rules {
		texts = append(texts, impl.FormatForm(listForm(r.Pattern, r.Template)))
	}
	return "(" + strings.Join(texts, " ") + ")"
}

func TestRuleValid(t *testing.T) {
	cases := []struct{ pattern, template, literals string }{
		{"(_)", "1", "()"},
		{"(_)", "x", "()"},
		{"(5)", "(_ () x{3} 7)", "()"},
		{"(())", "()", "()"},
		{"(a)", "a", "()"},
		{"(a b)", "a", "()"},
		{"(a b)", "(b b b{1} c)", "()"},
		{"(_ a b ...)", "(if a 1 (or b ...))", "()"},
		{"(_ a b ...)", "((a b) ...)", "()"},
		{"(_ a ...{1})", "(a ...{2})", "()"},
		{"(a ...)", "(a ... a ... (a ...))", "()"},
		{"(_ (a b ...) ...)", "(m (a ...) ((a b ...) ...) z)", "()"},
		{"(((a ...) ...) ...)", "(((a ...) ...) ...)", "()"},
		{"(_ ... _)", "(_ x)", "()"},
		// A literal is no variable, and what is one with other scopes is another name.
		{"(_ else a)", "(else a)", "(else)"},
		{"(_ else ...)", "else", "(else)"},
		{"(_ else{1} ...)", "(else else{1} ...)", "(else)"},
		{"(_ a)", "(b c d)", "(b c d e f g h i j)"},
		{"(" + namesUpTo(20) + ")", "(v0 v19)", "()"},
	}
	for _, c := range cases {
		rule := impl.Rule{Pattern: parse(t, c.pattern), Template: parse(t, c.template)}
		if !impl.RuleValid(rule, parseAll(t, c.literals)) {
			t.Errorf("RuleValid is false for %s and %s, with the literals %s", c.pattern, c.template, c.literals)
		}
	}
	for _, template := range []impl.Form{wide(400), nested(40)} {
		if !impl.RuleValid(impl.Rule{Pattern: parse(t, "(_)"), Template: template}, nil) {
			t.Errorf("RuleValid is false for a template with %d nodes", impl.FormSize(template))
		}
	}
}

// badRule is a rule that is not valid with its literals.
type badRule struct {
	rule     impl.Rule
	literals []impl.Form
}

func badRules(t *testing.T) map[string]badRule {
	bad := map[string]badRule{}
	for _, texts := range [][3]string{
		{"a", "a", "()"}, {"_", "1", "()"}, {"5", "1", "()"}, {"()", "1", "()"}, {"else", "1", "(else)"},
		{"(a a)", "1", "()"}, {"(... a)", "1", "()"}, {"(a ... b ...)", "1", "()"}, {"((((a ...) ...) ...) ...)", "1", "()"},
		{"(a)", "...", "()"}, {"(a)", "(... a)", "()"}, {"(a ...)", "(a ... ...)", "()"}, {"(_)", "(x ...)", "()"},
		{"(a ...)", "a", "()"}, {"(a ...)", "(a)", "()"}, {"(a ...)", "(x (a ... a))", "()"}, {"(a)", "(a ...)", "()"},
		{"(_ a b ...)", "((a ...) b ...)", "()"}, {"((a ...) ...)", "(a ...)", "()"}, {"((a ...) ...)", "((a ... a) ...)", "()"},
		{"(a ...)", "((a ...) ...)", "()"}, {"(_ else ...)", "(else ...)", "(else)"}, {"(_ a{1} ...)", "(a ...)", "()"},
		{"(_ a ...)", "(a ...)", "(a)"}, {"(_ a ...)", "a", "(a{1})"},
		{"(_)", "1", "(_)"}, {"(_)", "1", "(...)"}, {"(_)", "1", "(a a)"}, {"(_)", "1", "(5)"}, {"(_)", "1", "((a))"},
		{"(_)", "1", "(a b c d e f g h i j)"}, {"(" + namesUpTo(21) + ")", "1", "()"},
	} {
		rule := impl.Rule{Pattern: parse(t, texts[0]), Template: parse(t, texts[1])}
		bad[strings.Join(texts[:], " ")] = badRule{rule, parseAll(t, texts[2])}
	}
	good := parse(t, "(_)")
	for what, f := range invalidForms() {
		bad[what+" as the pattern"] = badRule{impl.Rule{Pattern: f, Template: good}, nil}
		bad[what+" in the pattern"] = badRule{impl.Rule{Pattern: listForm(nameForm("_"), f), Template: good}, nil}
		bad[what+" as the template"] = badRule{impl.Rule{Pattern: good, Template: f}, nil}
		bad[what+" in the template"] = badRule{impl.Rule{Pattern: good, Template: listForm(f)}, nil}
		bad[what+" as a literal"] = badRule{impl.Rule{Pattern: good, Template: good}, []impl.Form{nameForm("a"), f}}
	}
	bad["the zero value"] = badRule{}
	return bad
}

func TestRulesRefused(t *testing.T) {
	f, good := parse(t, "(m)"), rulesOf(t, "(((_) 1))")[0]
	for what, c := range badRules(t) {
		if impl.RuleValid(c.rule, c.literals) {
			t.Errorf("RuleValid is true for %s", what)
		}
		// A bad rule counts also behind one that matches.
		for _, rules := range [][]impl.Rule{{c.rule}, {good, c.rule}, {c.rule, good}} {
			checkNoRules(t, what, nil, rules, c.literals, f)
			if dead := impl.DeadRules(append(rules, good, good), c.literals); len(dead) != 0 {
				t.Errorf("DeadRules with %s = %v", what, dead)
			}
		}
	}
}

func checkNoRules(t *testing.T, what string, list []impl.Bind, rules []impl.Rule, literals []impl.Form, f impl.Form) {
	t.Helper()
	if number, ok := impl.FirstRule(list, rules, literals, f); ok || number != 0 {
		t.Errorf("FirstRule with %s = %d, %v", what, number, ok)
	}
	if g, ok := impl.ApplyRules(list, rules, literals, f); ok || !isZero(g) {
		t.Errorf("ApplyRules with %s = %v, %v", what, g, ok)
	}
}

func TestRulesRefuseInvalidArguments(t *testing.T) {
	f, rules := parse(t, "(m)"), rulesOf(t, "(((_ ...) 1) ((_ a ...) 2))")
	if number, ok := impl.FirstRule(nil, rules, nil, f); !ok || number != 0 {
		t.Fatalf("FirstRule = %d, %v", number, ok)
	}
	for what, list := range invalidBinds() {
		checkNoRules(t, what, list, rules, nil, f)
	}
	for what, g := range invalidForms() {
		checkNoRules(t, what, nil, rules, nil, g)
		checkNoRules(t, "a list of "+what, nil, rules, nil, listForm(g))
	}
	checkNoRules(t, "no rules", nil, nil, nil, f)
	checkNoRules(t, "10 rules", nil, slices.Repeat(rules, 5), nil, f)
	checkNoRules(t, "many rules", nil, make([]impl.Rule, 1000000), nil, f)
	checkNoRules(t, "many literals", nil, rules, make([]impl.Form, 1000000), f)
	if number, ok := impl.FirstRule(nil, slices.Repeat(rules, 5)[:9], nil, f); !ok || number != 0 {
		t.Errorf("FirstRule of 9 rules = %d, %v", number, ok)
	}
}

// applyCase tells of a form which rule it matches first, and what it becomes.
type applyCase struct {
	form, want string
	rule       int
}

func checkApplies(t *testing.T, list []impl.Bind, literals string, rules string, cases []applyCase) {
	t.Helper()
	for _, c := range cases {
		f, lits, all := parse(t, c.form), parseAll(t, literals), rulesOf(t, rules)
		if c.rule < 0 {
			checkNoRules(t, c.form, list, all, lits, f)
			continue
		}
		if number, ok := impl.FirstRule(list, all, lits, f); !ok || number != c.rule {
			t.Errorf("FirstRule of %s = %d, %v, want %d", c.form, number, ok, c.rule)
		}
		g, ok := impl.ApplyRules(list, all, lits, f)
		if got := formText(g, ok); got != c.want || !ok && !isZero(g) {
			t.Errorf("%s becomes %s, want %s", c.form, got, c.want)
		}
	}
}

func TestApplyRules(t *testing.T) {
	checkApplies(t, nil, "()", "(((_) 0) ((_ a) a) ((_ a b ...) (if a 1 (or b ...))))", []applyCase{
		{"(or)", "0", 0},
		{"(or x)", "x", 1},
		{"(5 (x 1))", "(x 1)", 1},
		{"(or x y)", "(if x 1 (or y))", 2},
		{"(or x y z)", "(if x 1 (or y z))", 2},
		{"()", "", -1},
		{"or", "", -1},
		{"5", "", -1},
	})
	checkApplies(t, nil, "(else)", "(((_ else e) e) ((_ c e r ...) (if c e (cond r ...))))", []applyCase{
		{"(cond else 2)", "2", 0},
		{"(cond else{7} 2)", "2", 0},
		{"(cond p 1 else 2)", "(if p 1 (cond else 2))", 1},
		{"(cond else 2 3)", "(if else 2 (cond 3))", 1},
		{"(cond else)", "", -1},
		{"(cond)", "", -1},
	})
	checkApplies(t, nil, "()", "(((_ 5) five) ((_ (a)) (one a)) ((_ (a ...)) (many a ...)) ((_ a) other))", []applyCase{
		{"(m 5)", "five", 0},
		{"(m 6)", "other", 3},
		{"(m (5))", "(one 5)", 1},
		{"(m ())", "(many)", 2},
		{"(m (x y))", "(many x y)", 2},
		{"(m x)", "other", 3},
		{"(m 5 5)", "", -1},
	})
	// The form of a use can hold what means something in patterns and templates.
	checkApplies(t, nil, "()", "(((_ a b) (b a _)))", []applyCase{
		{"(swap ... _)", "(_ ... _)", 0},
		{"(swap b a)", "(a b _)", 0},
		{"(swap b{1} a{2})", "(a{2} b{1} _)", 0},
	})
}

func TestApplyRulesGivenBindings(t *testing.T) {
	list := []impl.Bind{bind("else", 11, 1), bind("other", 11)}
	cases := []applyCase{
		{"(m else)", "1", 0},
		{"(m else{2})", "1", 0},
		{"(m else{1})", "(x else{1})", 1},
		{"(m else{1,2})", "(x else{1,2})", 1},
		{"(m other)", "(x other)", 1},
	}
	checkApplies(t, list, "(else)", "(((_ else) 1) ((_ a) (x a)))", cases)
	checkApplies(t, list, "(else{1})", "(((_ else{1}) 1) ((_ a) (x a)))", []applyCase{
		{"(m else)", "(x else)", 1},
		{"(m else{1,2})", "1", 0},
		{"(m other)", "1", 0},
		{"(m other{5})", "1", 0},
	})
	checkApplies(t, nil, "(else)", "(((_ else) 1) ((_ a) (x a)))", []applyCase{{"(m else{1})", "1", 0}, {"(m other)", "(x other)", 1}})
}

func TestOnlyTheFirstMatchCounts(t *testing.T) {
	// The first rule can't be filled with rows of several lengths; the second one would match, too.
	rules := "(((_ (a ...) (b ...)) ((a b) ...)) ((_ a b) 7))"
	checkApplies(t, nil, "()", rules, []applyCase{
		{"(m (1 2) (3 4))", "((1 3) (2 4))", 0},
		{"(m (1 2) (3))", noFill, 0},
		{"(m (1 2) 3)", "7", 1},
	})
	// The result of the first rule has 3 nodes, and 2 for each form.
	twice := rulesOf(t, "(((_ a ...) (x a ... y a ...)) ((_ ...) 7))")
	for count, want := range map[int]bool{198: true, 199: false, 398: false} {
		f := wide(count + 2)
		number, ok := impl.FirstRule(nil, twice, nil, f)
		g, filled := impl.ApplyRules(nil, twice, nil, f)
		if !ok || number != 0 || filled != want || filled != impl.FormValid(g) || !filled && !isZero(g) {
			t.Errorf("with %d forms, FirstRule = %d, %v, and ApplyRules = %v", count, number, ok, filled)
		}
	}
}

func TestParseRules(t *testing.T) {
	for text, want := range map[string][2]string{
		"(rules ())":                             {"()", "()"},
		"(rules (a b{1}))":                       {"(a b{1})", "()"},
		"(rules{1,2} ())":                        {"()", "()"},
		"(rules () ((_) 1))":                     {"()", "(((_) 1))"},
		"(rules () ((_ a) a) ((_ a b) (b a 3)))": {"()", "(((_ a) a) ((_ a b) (b a 3)))"},
		"(rules (else) ((_ else e) e))":          {"(else)", "(((_ else e) e))"},
		"(rules (rules) ((rules) rules))":        {"(rules)", "(((rules) rules))"},
		"(rules{1} (else{1}) ((_{1} (else{1} e{1}) ...{1}) (e{1} ...{1} x{1,2})))": {
			"(else{1})", "(((_{1} (else{1} e{1}) ...{1}) (e{1} ...{1} x{1,2})))",
		},
		"(rules (a b c d e f g h i)" + strings.Repeat(" ((_ x) x)", 9) + ")": {
			"(a b c d e f g h i)", "(" + strings.Repeat("((_ x) x) ", 8) + "((_ x) x))",
		},
		"(rules () ((_ ()) ()))": {"()", "(((_ ()) ()))"},
	} {
		literals, rules, ok := impl.ParseRules(parse(t, text))
		if !ok || textOf(literals) != want[0] || rulesText(rules) != want[1] {
			t.Errorf("ParseRules of %s = %s, %s, %v", text, textOf(literals), rulesText(rules), ok)
		}
		for i, rule := range rules {
			if !impl.RuleValid(rule, literals) {
				t.Errorf("ParseRules of %s returns a rule, %d, which is not valid", text, i)
			}
		}
	}
}

func TestParseRulesRefuses(t *testing.T) {
	refused := func(what string, f impl.Form) {
		if literals, rules, ok := impl.ParseRules(f); ok || len(literals) != 0 || len(rules) != 0 {
			t.Errorf("ParseRules of %s = %v, %v, %v", what, literals, rules, ok)
		}
	}
	for _, text := range []string{
		"rules", "5", "()", "(rules)", "(rule ())", "(5 ())", "(() ())", "((rules) ())", "(() rules ())",
		"(rules x)", "(rules 5)", "(rules x ((_) 1))", "(rules (_))", "(rules (...))", "(rules (a a))", "(rules (5))", "(rules ((a)))",
		"(rules (a b c d e f g h i j))", "(rules (a{1} b a{1}) ((_) 1))",
		"(rules () x)", "(rules () 5)", "(rules () ())", "(rules () ((_)))", "(rules () ((_) 1 2))", "(rules () ((_) 1) x)", "(rules () x ((_) 1))",
		"(rules () ((_) 1) ((_)))", "(rules () ((_)) ((_) 1))", "(rules () (_ 1))", "(rules () (() 1))", "(rules () (5 1))", "(rules () (x x))",
		"(rules () ((_ a a) 1))", "(rules () ((_ a ...) a))", "(rules () ((_ a) (a ...)))", "(rules () ((_ a) a) ((_ ... _ ...) 1))",
		"(rules (a) ((_ a ...) (a ...)))", "(rules (else) (else 1))",
		"(rules ()" + strings.Repeat(" ((_) 1)", 10) + ")",
	} {
		refused(text, parse(t, text))
	}
	rules, empty := nameForm("rules"), listForm()
	for what, f := range invalidForms() {
		refused(what, f)
		refused(what+" as a literal", listForm(rules, listForm(f)))
		refused(what+" as a rule", listForm(rules, empty, f))
		refused(what+" as a pattern", listForm(rules, empty, listForm(f, numForm(1))))
		refused(what+" as a template", listForm(rules, empty, listForm(listForm(nameForm("_")), f)))
		refused(what+" instead of the word", listForm(f, empty))
	}
	for what, f := range map[string]impl.Form{
		"a number with a Name": {Kind: impl.KindNum, Name: "rules"},
		"a list with a Name":   {Kind: impl.KindList, Name: "rules"},
		"a Name of no kind":    {Name: "rules"},
	} {
		refused(what, listForm(f, empty))
	}
}

func TestDeadRules(t *testing.T) {
	cases := []struct {
		literals, rules string
		want            []int
	}{
		{"()", "()", nil},
		{"()", "(((_) 1))", nil},
		{"()", "(((_) 1) ((_) 1))", []int{1}},
		{"()", "(((_) 1) ((a) 1) ((5) 1) ((()) 1) ((x{1}) 1))", []int{1, 2, 3, 4}},
		{"()", "(((a) 1) ((_) 2))", []int{1}},
		{"()", "(((5) 1) ((6) 1) ((5) 1) ((_) 1) ((6) 1))", []int{2, 4}},
		{"()", "(((5) 1) ((a) 1) (((5)) 1))", []int{2}},
		// Lists of the same length, part by part.
		{"()", "(((_ a) 1) ((_ a b) 1) ((_) 1) ((_ 5) 1) ((_ a 5) 1))", []int{3, 4}},
		{"()", "(((_ (a b)) 1) ((_ (a)) 1) ((_ (5 ())) 1) ((_ 5) 1) ((_ a) 1) ((_ (a (b))) 1))", []int{2, 5}},
		{"()", "(((_ 1 a) 1) ((_ a 1) 1) ((_ 1 1) 1) ((_ a b) 1) ((_ 2 2) 1))", []int{2, 4}},
		{"()", "(((_ ()) 1) ((_ ()) 1) ((_ (a)) 1))", []int{1}},
		{"()", "(((()) 1) ((a) 1) ((5) 1))", []int{2}},
		// Dots have to be at the same places.
		{"()", "(((_ a ...) 1) ((_ b ...) 2) ((_ a) 1) ((_ a b) 1) ((_) 1) ((_ 5 ...) 1))", []int{1, 5}},
		{"()", "(((_ a b) 1) ((_ a ...) 1))", nil},
		{"()", "(((_ a ... b) 1) ((_ a b ...) 1) ((_ 1 ... 2) 1) ((_ 1 2 ...) 1))", []int{2, 3}},
		{"()", "(((_ 5 ...) 1) ((_ a ...) 1) ((_ 5 ...{1}) 1))", []int{2}},
		{"()", "(((_ (a ...) ...) 1) ((_ a ...) 1) ((_ ((b c) ...) ...) 1))", []int{2}},
		{"()", "(((_ (a ...)) 1) ((_ (a b)) 1) ((_ ((b) ...)) 1))", []int{2}},
		{"()", "(((_ a) 1) ((_ (b ...)) 1) ((_ ...) 1))", []int{1}},
		// Literals are only more general than equal ones.
		{"(else)", "(((_ else) 1) ((_ 5) 1) ((_ else) 1) ((_ a) 1) ((_ else) 1))", []int{2, 4}},
		{"(else x)", "(((_ else) 1) ((_ x) 1) ((_ (else)) 1) ((_ _) 1))", nil},
		{"(else)", "(((_ a) 1) ((_ else) 1))", []int{1}},
		{"(else)", "(((_ else{1}) 1) ((_ else) 1))", []int{1}},
		{"(else{1})", "(((_ else{1}) 1) ((_ else) 1) ((_ else{1}) 1))", []int{2}},
		{"(else)", "(((_ else) 1) ((_ else{1}) 1))", nil},
		{"(else)", "(((else) 1) ((_) 1) ((a) 1))", []int{2}},
		{"(else)", "(((_ 5 else) 1) ((_ 5 5) 1) ((_ 5 else) 1))", []int{2}},
		// Templates do not count, nor whether several rules are more general.
		{"()", "(((_ a) a) ((_ b) (b 1)) ((_ 1) b))", []int{1, 2}},
		{"(else)", "(((_ a) a) ((_ 5) 6) ((_ else) 1) ((_ a b) b) ((_ a ...) 1) ((_ b ...) 2))", []int{1, 2, 5}},
		{"()", "(" + strings.Repeat("((_) 1)", 9) + ")", []int{1, 2, 3, 4, 5, 6, 7, 8}},
		{"()", "(" + strings.Repeat("((_) 1)", 10) + ")", nil},
	}
	for _, c := range cases {
		if got := impl.DeadRules(rulesOf(t, c.rules), parseAll(t, c.literals)); !slices.Equal(got, c.want) {
			t.Errorf("DeadRules of %s, with the literals %s, = %v, want %v", c.rules, c.literals, got, c.want)
		}
	}
	good := rulesOf(t, "(((_) 1) ((_) 1))")
	for _, literals := range []string{"(_)", "(a a)", "(5)", "(a b c d e f g h i j)"} {
		if got := impl.DeadRules(good, parseAll(t, literals)); len(got) != 0 {
			t.Errorf("DeadRules with the literals %s = %v", literals, got)
		}
	}
	if got := impl.DeadRules(make([]impl.Rule, 1000000), nil); len(got) != 0 {
		t.Errorf("DeadRules of many rules = %v", got)
	}
}

// TestDeadRulesNeverMatchFirst tries all pairs of short patterns: no form matches a dead rule first.
func TestDeadRulesNeverMatchFirst(t *testing.T) {
	literals := []impl.Form{nameForm("l")}
	var rules []impl.Rule
	for _, p := range formsOfTokens(6, "...", "_", "l", "1", "a") {
		if rule := (impl.Rule{Pattern: p, Template: numForm(1)}); impl.RuleValid(rule, literals) {
			rules = append(rules, rule)
		}
	}
	forms := formsOfTokens(6, "l", "1")
	matched := make([]string, len(rules))
	for i, rule := range rules {
		for _, f := range forms {
			_, ok := impl.MatchPattern(nil, rule.Pattern, literals, f)
			matched[i] += strconv.FormatBool(ok)[:1]
		}
	}
	dead := 0
	for i, first := range rules {
		for j, second := range rules {
			if len(impl.DeadRules([]impl.Rule{first, second}, literals)) == 0 {
				if i == j {
					t.Fatalf("%s is not more general than itself", impl.FormatForm(first.Pattern))
				}
				continue
			}
			dead++
			for k := range forms {
				if matched[j][k] == 't' && matched[i][k] == 'f' {
					t.Fatalf("%s matches %s, but not %s", impl.FormatForm(forms[k]), impl.FormatForm(second.Pattern), impl.FormatForm(first.Pattern))
				}
			}
		}
	}
	if dead < 2*len(rules) {
		t.Errorf("of %d rules, only %d pairs have a dead one", len(rules), dead)
	}
}

func memoryOfRules(rules []impl.Rule) string {
	text := strconv.Itoa(len(rules))
	for _, r := range rules[:cap(rules)] {
		text += memoryOfForm(r.Pattern) + memoryOfForm(r.Template)
	}
	return text
}

func spoilRules(rules []impl.Rule) {
	rules = rules[:cap(rules)]
	for i := range rules {
		spoil(rules[i].Pattern)
		spoil(rules[i].Template)
		rules[i] = impl.Rule{Pattern: numForm(777)}
	}
}

func TestRulesShareNoMemory(t *testing.T) {
	f := roomyCopy(parse(t, "(m{1} else{2} (p{3} (q)) (r{4} s))"))
	literals := roomyCopy(parse(t, "(else{2} other{8})")).Kids
	rules := rulesOf(t, "(((_) 1) ((_ else{2} (a{1} b) ... ) (x{5} a{1} ... (b (b)) ...)) ((_ else{2} (c d) ...) 1))")
	for i := range rules {
		rules[i] = impl.Rule{Pattern: roomyCopy(rules[i].Pattern), Template: roomyCopy(rules[i].Template)}
	}
	rules = append(rules, impl.Rule{Pattern: numForm(3)})[:3]
	list := roomyBinds()
	memory := func() string {
		return memoryOfForm(f) + memoryOfForm(listForm(literals[:cap(literals)]...)) + memoryOfRules(rules) + memoryOf(list)
	}
	before := memory()
	const want = "(x{5} p{3} r{4} ((q) ((q))) (s (s)))"
	first, ok := impl.ApplyRules(list, rules, literals, f)
	again, _ := impl.ApplyRules(list, rules, literals, f)
	number, matches := impl.FirstRule(list, rules, literals, f)
	dead, deadAgain := impl.DeadRules(rules, literals), impl.DeadRules(rules, literals)
	if got := formText(first, ok); got != want || number != 1 || !matches || !slices.Equal(dead, []int{2}) {
		t.Fatalf("the results are %s, %d, %v and %v", got, number, matches, dead)
	}
	checkPartsApart(t, first)
	spoilPlaces(dead)
	if memory() != before {
		t.Error("an argument, or memory beyond its length, is changed or shared by a result")
	}
	if impl.FormatForm(again) != want || !slices.Equal(deadAgain, []int{2}) {
		t.Error("a result shares memory with another one")
	}
}

func TestParsedRulesShareNoMemory(t *testing.T) {
	f := roomyCopy(parse(t, "(rules{9} (else{1} b{2,3}) ((_ else{1} a{4}) (x{5} (a{4}))) ((_ (c{6} d) ...) (c{6} ... 7)))"))
	before := memoryOfForm(f)
	literals, rules, ok := impl.ParseRules(f)
	literalsAgain, rulesAgain, _ := impl.ParseRules(f)
	lits, all := textOf(literalsAgain), rulesText(rulesAgain)
	if !ok || textOf(literals) != lits || rulesText(rules) != all || memoryOfForm(f) != before {
		t.Fatalf("ParseRules = %s, %s, %v, or changes its argument", textOf(literals), rulesText(rules), ok)
	}
	for i := range literals {
		spoil(literals[i])
		if textOf(literals[i+1:]) != textOf(literalsAgain[i+1:]) {
			t.Error("literals share memory")
		}
	}
	spoilForms(literals)
	if rulesText(rules) != all {
		t.Error("rules share memory with literals")
	}
	for i := range rules {
		spoil(rules[i].Pattern)
		if impl.FormatForm(rules[i].Template) != impl.FormatForm(rulesAgain[i].Template) {
			t.Error("a template shares memory with a pattern")
		}
		spoil(rules[i].Template)
		if rulesText(rules[i+1:]) != rulesText(rulesAgain[i+1:]) {
			t.Error("rules share memory")
		}
	}
	spoilRules(rules)
	if memoryOfForm(f) != before || textOf(literalsAgain) != lits || rulesText(rulesAgain) != all {
		t.Error("ParseRules shares memory with its argument or another result")
	}
}

func TestRulesKeepNoState(t *testing.T) {
	list := []impl.Bind{bind("else", 11, 1)}
	const rules = "(((_ else a) (a)) ((_ a b ...) (b ... a)))"
	for range 20 {
		checkApplies(t, nil, "(else)", rules, []applyCase{{"(m else{1} 2)", "(2)", 0}})
		checkApplies(t, list, "(else)", rules, []applyCase{{"(m else{1} 2)", "(2 else{1})", 1}})
		checkApplies(t, list, "()", "(((_ a) a))", []applyCase{{"(m else{1} 2)", "", -1}})
	}
}
