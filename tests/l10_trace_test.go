package tests

import (
	"fmt"
	"math"
	"slices"
	"strings"
	"testing"

	"loop.example/macroexpander/impl"
)

// stepLine tells all of a step: the number of the macro, the rule, the scope, and both forms with their scopes.
func stepLine(s impl.Step) string {
	return fmt.Sprintf("#%d %d %d %s -> %s\n", s.Id, s.Rule, s.Scope, impl.FormatForm(s.Use), impl.FormatForm(s.Result))
}

func stepLines(steps []impl.Step) string {
	var text strings.Builder
	for _, s := range steps {
		text.WriteString(stepLine(s))
	}
	return text.String()
}

// traced returns the lines of all steps of an expansion, and one with its end. It compares what is told of the same
// expansion by other functions.
func traced(t *testing.T, f impl.Form, budget int) string {
	t.Helper()
	steps, end := impl.TraceForm(f, budget)
	_, want := impl.ExpandForm(f, budget)
	if end != want || len(steps) > max(budget, 0) {
		t.Fatalf("TraceForm of %s has %d steps and ends with %d, want %d", impl.FormatForm(f), len(steps), end, want)
	}
	for i, s := range steps {
		if !impl.FormValid(s.Use) || !impl.FormValid(s.Result) || i > 0 && s.Scope <= steps[i-1].Scope {
			t.Errorf("in %s, a step is %s", impl.FormatForm(f), stepLine(s))
		}
	}
	checkCounts(t, f, budget, steps, end)
	return stepLines(steps) + endNames[end]
}

// checkCounts compares the results of UsesOf and DeepestUse with the steps of an expansion.
func checkCounts(t *testing.T, f impl.Form, budget int, steps []impl.Step, end int) {
	t.Helper()
	x, _ := impl.ExpandState(f, budget)
	if end == impl.ExpandOk && x.Steps != len(steps) {
		t.Errorf("%s has %d steps, and %d are told", impl.FormatForm(f), x.Steps, len(steps))
	}
	var uses []int
	deepest := 0
	for _, m := range x.Macros {
		uses = append(uses, 0)
		for _, s := range steps {
			if s.Id == m.Id {
				uses[len(uses)-1]++
			}
		}
	}
	for _, s := range steps {
		if end == impl.ExpandOk {
			deepest = max(deepest, impl.FormSize(s.Use))
		}
	}
	got, endOfUses := impl.UsesOf(f, budget)
	n, endOfDeepest := impl.DeepestUse(f, budget)
	if !slices.Equal(got, uses) || endOfUses != end || n != deepest || endOfDeepest != end {
		t.Errorf("of %s, UsesOf = %v, %d, want %v, and DeepestUse = %d, %d, want %d, with the end %d", impl.FormatForm(f),
			got, endOfUses, uses, n, endOfDeepest, deepest, end)
	}
}

func checkTraces(t *testing.T, budget int, cases []expandCase) {
	t.Helper()
	for _, c := range cases {
		if got := traced(t, parse(t, c.text), budget); got != c.want {
			t.Errorf("with the budget %d, the steps of %s are\n%s\nwant\n%s", budget, c.text, got, c.want)
		}
	}
}

const orRules = "(rules () ((_) 0) ((_ a) a) ((_ a b ...) (let ((t a)) (if t t (or b ...)))))"

func TestTraceForm(t *testing.T) {
	checkTraces(t, 20, []expandCase{
		{"(let ((tmp 5) (z 6)) (let-syntax ((swap (rules () ((_ a b) (let ((tmp a)) (list b tmp)))))) (swap tmp z)))",
			"#13 0 3 (swap{1,2} tmp{1,2} z{1,2}) -> (let{1,2,3} ((tmp{1,2,3} tmp{1,2})) (list{1,2,3} z{1,2} tmp{1,2,3}))\nok"},
		{macroOf("((_) 5)", "(m)"), "#11 0 2 (m{1}) -> 5\nok"},
		{macroOf("((_ a) a)", "(m (x{7} 1))"), "#11 0 2 (m{1} (x{1,7} 1)) -> (x{1,7} 1)\nok"},
		{macroOf("((_ a) (f a b{8}))", "(m b{8})"), "#11 0 2 (m{1} b{1,8}) -> (f{1,2} b{1,8} b{1,2,8})\nok"},
		// A rule is told by its place, and a macro by its number.
		{macroOf("((_) 5) ((_ a) a) ((_ a b) b)", "(f (m 1 2) (m) (m 3))"),
			"#11 2 2 (m{1} 1 2) -> 2\n#11 0 3 (m{1}) -> 5\n#11 1 4 (m{1} 3) -> 3\nok"},
		{"(lambda (x y) (let-syntax ((m (rules () ((_) 1))) (n (rules () ((_ a) 1) ((_) 2)))) (f (n) (m) (n 5))))",
			"#14 1 3 (n{1,2}) -> 2\n#13 0 4 (m{1,2}) -> 1\n#14 0 5 (n{1,2} 5) -> 1\nok"},
		// Without uses, there are no steps.
		{"5", "ok"},
		{"(lambda (x) (f x))", "ok"},
		{macroOf("((_) 5)", "(f (quote (m)))"), "ok"},
		{macroOf("((_) 5)", "(lambda (m) (m))"), "ok"},
		{"(f (let-syntax ((m (rules () ((_) 5)))) 1) (m))", "ok"},
		// Uses in a use are steps only where its result has them, and as often.
		{macroOf("((_ a) 5) ((_ a b) (f b b))", "(m (m 1) (m 2))"), "#11 1 2 (m{1} (m{1} 1) (m{1} 2)) -> (f{1,2} (m{1} 2) (m{1} 2))\n" +
			"#11 0 3 (m{1} 2) -> 5\n#11 0 4 (m{1} 2) -> 5\nok"},
		{macroOf("((_ a) (quote a))", "(m (m 1))"), "#11 0 2 (m{1} (m{1} 1)) -> (quote{1,2} (m{1} 1))\nok"},
	})
}

// TestResultsThatAreUses has steps whose results are the next uses.
func TestResultsThatAreUses(t *testing.T) {
	checkTraces(t, 20, []expandCase{
		{"(let-syntax ((or " + orRules + ")) (or 1 2 3))", "#11 2 2 (or{1} 1 2 3) -> " +
			"(let{1,2} ((t{1,2} 1)) (if{1,2} t{1,2} t{1,2} (or{1,2} 2 3)))\n" +
			"#11 2 4 (or{1,2,3} 2 3) -> (let{1,4} ((t{1,4} 2)) (if{1,4} t{1,4} t{1,4} (or{1,4} 3)))\n" +
			"#11 1 6 (or{1,4,5} 3) -> 3\nok"},
		{macroOf("((_) 1) ((_ a b ...) (m b ...))", "(m 7 8)"),
			"#11 1 2 (m{1} 7 8) -> (m{1,2} 8)\n#11 1 3 (m{1,2} 8) -> (m{1,3})\n#11 0 4 (m{1,3}) -> 1\nok"},
		{"(let-syntax ((a (rules () ((_ x) (b x x)))) (b (rules () ((_ x y) (f x y))))) (a 1))",
			"#11 0 2 (a{1} 1) -> (b{1,2} 1 1)\n#12 0 3 (b{1,2} 1 1) -> (f{1,3} 1 1)\nok"},
		// The result is a use of what is given as an argument.
		{macroOf("((_ a) (a 5)) ((_ a b) 6)", "(m m)"), "#11 0 2 (m{1} m{1}) -> (m{1} 5)\n#11 0 3 (m{1} 5) -> (5 5)\nok"},
		// A macro that is made by a step, and a result that is a name of it.
		{"(let-syntax ((def (rules () ((_ n v b) (let-syntax ((n (rules () ((_) v)))) b))))) (def k 5 (f (k))))",
			"#11 0 2 (def{1} k{1} 5 (f{1} (k{1}))) -> (let-syntax{1,2} ((k{1} (rules{1,2} () ((_{1,2}) 5)))) (f{1} (k{1})))\n" +
				"#12 0 4 (k{1,3}) -> 5\nok"},
		{"(let-syntax ((def (rules () ((_ n) (let-syntax ((n (rules () ((_) 7)))) n))))) (def k))",
			"#11 0 2 (def{1} k{1}) -> (let-syntax{1,2} ((k{1} (rules{1,2} () ((_{1,2}) 7)))) k{1})\nuse"},
	})
}

// TestStepsAreToldInOrder has uses in all parts of core forms, which are expanded in the order of the text, but for
// functions, whose bodies are behind the values.
func TestStepsAreToldInOrder(t *testing.T) {
	for text, want := range map[string]string{
		"(f (m 1) ((m 2) (m 3)) (m 4))":                               "1 2 3 4",
		"((m 1) (m 2))":                                               "1 2",
		"(if (m 1) (m 2) (m 3))":                                      "1 2 3",
		"(lambda (x) (m 1))":                                          "1",
		"(lambda (x) (lambda () (f (m 1) (m 2))))":                    "1 2",
		"(let ((x (m 1)) (y (m 2))) (m 3))":                           "1 2 3",
		"(let ((x (let ((y (m 1))) (m 2)))) (let ((z (m 3))) (m 4)))": "1 2 3 4",
		"((lambda (x) (m 1)) (m 2))":                                  "1 2",
		"(let-syntax ((n (rules () ((_) (m 2))))) (f (m 1) (n)))":     "1 n 2",
		"(let-syntax ((n (rules () ((_) 1)))) (let-syntax () (m 1)))": "1",
		"(quote (m 1))":                                               "",
		"(m (f (m 1) (m 2)))":                                         "(f (m 1) (m 2)) 1 2",
	} {
		steps, end := impl.TraceForm(parse(t, macroOf("((_ a) a)", text)), 20)
		var uses []string
		for _, s := range steps {
			use := impl.StripForm(s.Use)
			uses = append(uses, impl.FormatForm(use.Kids[len(use.Kids)-1]))
		}
		if got := strings.Join(uses, " "); got != want || end != impl.ExpandOk {
			t.Errorf("the uses in %s are %s, with the end %d, want %s", text, got, end, want)
		}
	}
}

func TestExpansionsThatEndInTheMiddle(t *testing.T) {
	const first = "#11 0 4 (m{1} 1) -> 1\n#11 0 5 (m{1} 2) -> 2\n"
	for body, want := range map[string]string{
		"7":                "ok",
		"()":               "forms",
		"(lambda (x x) 1)": "forms",
		"x{2,3,90,91}":     "many",
		"(m)":              "rule",
		"(no 1)":           "rule",
		"m":                "use",
		"if":               "use",
		"x{2,90}":          "spent",
	} {
		// What ends the expansion, and the limit of the core program in the last case, are behind two steps and in front of none.
		program := "(let-syntax ((m (rules () ((_ a) a))) (no (rules ()))) (f (lambda (x{90}) 1) (lambda (x{91}) 1) (m 1) (m 2) " + body + "%s))"
		checkTraces(t, 20, []expandCase{{fmt.Sprintf(program, ""), first + want}})
		last := ""
		if want == "ok" || want == "spent" {
			last = "#11 0 6 (m{1} 3) -> 3\n"
		}
		checkTraces(t, 20, []expandCase{{fmt.Sprintf(program, " (m 3)"), first + last + want}})
	}
	checkTraces(t, 20, []expandCase{
		// The result of the last step is what ends the expansion.
		{macroOf("((_) ())", "(m)"), "#11 0 2 (m{1}) -> ()\nforms"},
		{macroOf("((_) (f))", "((m) (m 1))"), "#11 0 2 (m{1}) -> (f{1,2})\nrule"},
		{macroOf("((_) if)", "(m)"), "#11 0 2 (m{1}) -> if{1,2}\nuse"},
		{macroOf("((_) (m 5))", "(m)"), "#11 0 2 (m{1}) -> (m{1,2} 5)\nrule"},
		{macroOf("((_ x) (lambda (x x) 1))", "(m y)"), "#11 0 2 (m{1} y{1}) -> (lambda{1,2} (y{1} y{1}) 1)\nforms"},
		{macroOf("((_ v) (lambda (v) (lambda (x) (lambda (v) (f v x)))))", "(m x)"),
			"#11 0 2 (m{1} x{1}) -> (lambda{1,2} (x{1}) (lambda{1,2} (x{1,2}) (lambda{1,2} (x{1}) (f{1,2} x{1} x{1,2}))))\nmany"},
	})
}

func TestTracesWithABudget(t *testing.T) {
	program := parse(t, "(let-syntax ((or "+orRules+") (m (rules () ((_ a) (or a a))))) (list (m 1) (or) (lambda (x) (m x))))")
	all := strings.SplitAfter(traced(t, program, 60), "\n")
	steps := len(all) - 1
	if steps != 7 || all[steps] != "ok" {
		t.Fatalf("the steps are %q", all)
	}
	for budget := range 61 {
		want := strings.Join(all[:min(budget, steps)], "") + "spent"
		if budget >= steps {
			want = strings.Join(all, "")
		}
		if got := traced(t, program, budget); got != want {
			t.Errorf("with the budget %d, the steps are\n%s\nwant\n%s", budget, got, want)
		}
	}
	loop := parse(t, macroOf("((_) (m))", "(m)"))
	for budget := range 61 {
		lines := strings.SplitAfter(traced(t, loop, budget), "\n")
		if len(lines) != budget+1 || lines[budget] != "spent" {
			t.Errorf("with the budget %d, there are %d steps, and the end is %s", budget, len(lines)-1, lines[len(lines)-1])
		}
		for i, line := range lines[:budget] {
			use := "m{1}"
			if i > 0 {
				use = fmt.Sprintf("m{1,%d}", i+1)
			}
			if want := fmt.Sprintf("#11 0 %d (%s) -> (m{1,%d})\n", i+2, use, i+2); line != want {
				t.Errorf("with the budget %d, the step %d is %s, want %s", budget, i, line, want)
			}
		}
	}
}

// TestUsesThatAreNoSteps has uses whose results are not valid, which end an expansion with no step of their own.
func TestUsesThatAreNoSteps(t *testing.T) {
	forms := func(n int) string { return strings.Repeat(" 1", n) }
	stepsOf := func(rules string, body string) (int, int) {
		steps, end := impl.TraceForm(parse(t, macroOf(rules, body)), 60)
		return len(steps), end
	}
	const twice = "((_ a ...) (f a ... a ...))"
	deep := func(levels int) string { return "(m " + impl.FormatForm(nested(levels)) + ")" }
	// Of 24 scopes, a name gets one in the region of its macro, and a name of the template a second one.
	dressed := func(n int) string { return impl.FormatForm(nameForm("x", scopesUpTo(n + 9)[9:]...)) }
	for _, c := range []struct {
		rules, body string
		steps, end  int
	}{
		{twice, "(m" + forms(199) + ")", 1, impl.ExpandOk},
		{twice, "(m" + forms(200) + ")", 0, impl.ExpandSpent},
		{twice, "(f (m) (m" + forms(150) + ") (m" + forms(200) + "))", 2, impl.ExpandSpent},
		{"((_ (a ...) (b ...)) (f (a b) ...))", "(f (m (1) (2)) (m (1) ()))", 1, impl.ExpandSpent},
		{"((_ a) (f (f (quote a))))", deep(37), 1, impl.ExpandOk},
		{"((_ a) (f (f (quote a))))", deep(38), 0, impl.ExpandSpent},
		{"((_) " + dressed(22) + ")", "(m)", 1, impl.ExpandOk},
		{"((_) " + dressed(23) + ")", "(m)", 0, impl.ExpandSpent},
		{"((_ a) 1)", "(m " + dressed(22) + ")", 1, impl.ExpandOk},
		{"((_ a) 1)", "(m " + dressed(23) + ")", 0, impl.ExpandSpent},
	} {
		if steps, end := stepsOf(c.rules, c.body); steps != c.steps || end != c.end {
			t.Errorf("with the rules %s, %s has %d steps and ends with %s, want %d and %s", c.rules, c.body, steps, endNames[end],
				c.steps, endNames[c.end])
		}
	}
	// Scopes that functions have given are missing for uses.
	const uses = "(list (m) (m) (m))"
	for n, want := range map[int]int{95: 3, 96: 2, 97: 1, 98: 0} {
		steps, end := stepsOf("((_) 1)", "(list "+strings.Repeat(functions(20, "1")+" ", 4)+functions(n-80, "1")+uses+")")
		if steps != want || (end == impl.ExpandOk) != (want == 3) {
			t.Errorf("with %d functions, there are %d steps, and the end is %s", n, steps, endNames[end])
		}
	}
	// The core program is too large only in the end, when all steps are told.
	if steps, end := stepsOf("((_) (f"+forms(298)+"))", "(g (m) (m) (m))"); steps != 3 || end != impl.ExpandSpent {
		t.Errorf("with too large a program, there are %d steps, and the end is %s", steps, endNames[end])
	}
}

func TestTraceRefuses(t *testing.T) {
	check := func(what string, f impl.Form, budget int) {
		steps, end := impl.TraceForm(f, budget)
		uses, endOfUses := impl.UsesOf(f, budget)
		n, endOfDeepest := impl.DeepestUse(f, budget)
		if len(steps) != 0 || end != impl.ExpandBad || len(uses) != 0 || endOfUses != impl.ExpandBad || n != 0 || endOfDeepest != impl.ExpandBad {
			t.Errorf("%s: TraceForm = %v, %d, UsesOf = %v, %d, DeepestUse = %d, %d", what, steps, end, uses, endOfUses, n, endOfDeepest)
		}
	}
	for what, f := range invalidForms() {
		check(what, f, 20)
		check(what+", and a budget", f, -1)
	}
	check("a form that holds itself", selfHolding(), 20)
	for _, budget := range []int{-1, 61, math.MinInt, math.MaxInt} {
		check(fmt.Sprint("the budget ", budget), parse(t, macroOf("((_) 1)", "(m)")), budget)
		check(fmt.Sprint("without uses, the budget ", budget), numForm(1), budget)
	}
}

func TestUsesOf(t *testing.T) {
	for _, c := range []struct {
		text string
		want []int
		end  int
	}{
		{"5", nil, impl.ExpandOk},
		{"(lambda (x) x)", nil, impl.ExpandOk},
		{macroOf("((_) 1)", "5"), []int{0}, impl.ExpandOk},
		{macroOf("((_) 1)", "(m)"), []int{1}, impl.ExpandOk},
		{macroOf("((_) 1)", "(f (m) (m) (m))"), []int{3}, impl.ExpandOk},
		{macroOf("((_) 1)", "(quote (m))"), []int{0}, impl.ExpandOk},
		{macroOf("((_) 1) ((_ a b ...) (m b ...))", "(m 1 2 3)"), []int{4}, impl.ExpandOk},
		{"(let-syntax ((a (rules () ((_) (b)))) (b (rules () ((_) 1))) (c (rules ()))) (f (a) (b) (a)))", []int{2, 3, 0}, impl.ExpandOk},
		{"(let-syntax ((a (rules ())) (b (rules () ((_) 1)))) (b))", []int{0, 1}, impl.ExpandOk},
		// Macros are told one by one, though they have the same name, and though one rule makes several of them.
		{"(f " + macroOf("((_) 1)", "(f (m) (m))") + " " + macroOf("((_) 2)", "(m)") + " " + macroOf("((_) 3)", "3") + ")", []int{2, 1, 0}, impl.ExpandOk},
		{macroOf("((_) 1)", "(let ((x (m))) "+macroOf("((_) 2)", "(f (m) (m))")+")"), []int{1, 2}, impl.ExpandOk},
		{"(let-syntax ((def (rules () ((_ v b) (let-syntax ((k (rules () ((_) v)))) b))))) (def 1 (def 2 3)))", []int{2, 0, 0}, impl.ExpandOk},
		{"(let-syntax ((def (rules () ((_ k b) (let-syntax ((k (rules () ((_) 1)))) b))))) (def k (list (k) (def n (list (k) (n))))))",
			[]int{2, 2, 1}, impl.ExpandOk},
		{macroOf("((_) 1)", "(f (m) ())"), nil, impl.ExpandForms},
		{macroOf("((_) 1)", "(f (m) m)"), nil, impl.ExpandUse},
		{macroOf("((_) 1)", "(f (m) (m 1))"), nil, impl.ExpandRule},
		{macroOf("((_) (m))", "(m)"), nil, impl.ExpandSpent},
		{"(f " + macroOf("((_) 1)", "(m)") + " (lambda (x) 2) x{2})", []int{1}, impl.ExpandOk},
		{"(f " + macroOf("((_) 1)", "(m)") + " (lambda (x{7}) 1) (lambda (x{8}) 2) x{3,4,7,8})", nil, impl.ExpandMany},
	} {
		f := parse(t, c.text)
		if got, end := impl.UsesOf(f, 60); !slices.Equal(got, c.want) || end != c.end {
			t.Errorf("UsesOf %s = %v, %d, want %v, %d", c.text, got, end, c.want, c.end)
		}
		traced(t, f, 60)
	}
}

func TestDeepestUse(t *testing.T) {
	for _, c := range []struct {
		text string
		want int
		end  int
	}{
		{"5", 0, impl.ExpandOk},
		{"(lambda (x) (f x))", 0, impl.ExpandOk},
		{macroOf("((_) 1)", "(f 1 2 3 (quote (m)))"), 0, impl.ExpandOk},
		{macroOf("((_) 1)", "(m)"), 2, impl.ExpandOk},
		{macroOf("((_ a ...) 1)", "(f (m 1) (m 1 2 3) (m 1 2))"), 5, impl.ExpandOk},
		{macroOf("((_ a ...) 1)", "(f (m 1 2 3) (m))"), 5, impl.ExpandOk},
		{macroOf("((_ a ...) 1)", "(m (1 2 (3)) ((())))"), 10, impl.ExpandOk},
		// A use is counted, not its result, nor what it is in.
		{macroOf("((_) (f 1 2 3 4))", "(g 1 2 3 4 5 (m))"), 2, impl.ExpandOk},
		{macroOf("((_ a) (m a a a)) ((_ a b c) 1)", "(m (1 2))"), 11, impl.ExpandOk},
		{macroOf("((_) 1)", "(f (m) ())"), 0, impl.ExpandForms},
		{macroOf("((_) 1)", "(f (m) (m 1))"), 0, impl.ExpandRule},
		{macroOf("((_) 1)", "(f (m) m)"), 0, impl.ExpandUse},
		{macroOf("((_) (m))", "(m)"), 0, impl.ExpandSpent},
		{macroOf("((_ a ...) 1)", "(m"+strings.Repeat(" 1", 378)+")"), 380, impl.ExpandOk},
	} {
		if got, end := impl.DeepestUse(parse(t, c.text), 60); got != c.want || end != c.end {
			t.Errorf("DeepestUse of %s = %d, %d, want %d, %d", c.text, got, end, c.want, c.end)
		}
	}
	// A use that a step makes can have as many nodes as a form.
	whole := parse(t, macroOf("((_ a ...) (n a ... a ... a ...)) ", "(m"+strings.Repeat(" 1", 132)+")"))
	whole.Kids[1].Kids = append(whole.Kids[1].Kids, parse(t, "(n (rules () ((_ a ...) 1)))"))
	if got, end := impl.DeepestUse(whole, 60); got != 398 || end != impl.ExpandOk {
		t.Errorf("DeepestUse of a use that a step makes = %d, %d", got, end)
	}
}

// holding returns a step with these forms, and with numbers that do not fit them.
func holding(use impl.Form, result impl.Form) impl.Step {
	return impl.Step{Id: -1, Rule: -2, Scope: 1000, Use: use, Result: result}
}

func TestStepsText(t *testing.T) {
	if got := impl.StepsText(nil); got != "" {
		t.Errorf("StepsText of no steps = %q", got)
	}
	if got := impl.StepsText([]impl.Step{}); got != "" {
		t.Errorf("StepsText of an empty slice = %q", got)
	}
	for want, s := range map[string]impl.Step{
		" -> \n":                                 {},
		"(m) -> 5\n":                             holding(parse(t, "(m)"), numForm(5)),
		"(m x) -> (f (x) ())\n":                  holding(parse(t, "(m{1,99} x{4})"), parse(t, "(f{7} (x{4}) ())")),
		"x -> 0\n":                               holding(nameForm("x", 3), numForm(0)),
		"... -> _\n":                             holding(nameForm("...", 3), nameForm("_", 8)),
		" -> x\n":                                holding(impl.Form{}, nameForm("x", 1)),
		"x -> \n":                                holding(nameForm("x", 1), impl.Form{}),
		"(m a) -> y\n":                           holding(listForm(nameForm("m", 5, 4), nameForm("a", 0, 100)), nameForm("y", scopesUpTo(30)...)),
		"(1) -> 2\n":                             holding(impl.Form{Kind: impl.KindList, Scopes: []int{1}, Kids: []impl.Form{numForm(1)}}, impl.Form{Kind: impl.KindNum, N: 2, Scopes: []int{7}}),
		impl.FormatForm(wide(400)) + " -> \n":    holding(wide(400), wide(401)),
		impl.FormatForm(nested(40)) + " -> ()\n": holding(nested(40), listForm()),
	} {
		if got := impl.StepsText([]impl.Step{s}); got != want {
			t.Errorf("StepsText of %v = %q, want %q", s, got, want)
		}
	}
	for what, f := range invalidForms() {
		want := impl.FormatForm(impl.StripForm(f))
		if got := impl.StepsText([]impl.Step{holding(f, numForm(1)), holding(numForm(2), f)}); got != want+" -> 1\n2 -> "+want+"\n" {
			t.Errorf("with %s, StepsText = %q, want the text %q", what, got, want)
		}
	}
	if got := impl.StepsText([]impl.Step{holding(selfHolding(), numForm(1)), holding(numForm(2), selfHolding())}); got != " -> 1\n2 -> \n" {
		t.Errorf("with forms that hold themselves, StepsText = %q", got)
	}
	// Lines are in order, and there can be any number of them.
	steps, _ := impl.TraceForm(parse(t, "(let-syntax ((or "+orRules+")) (or 1 x 3))"), 9)
	const want = "(or 1 x 3) -> (let ((t 1)) (if t t (or x 3)))\n(or x 3) -> (let ((t x)) (if t t (or 3)))\n(or 3) -> 3\n"
	if got := impl.StepsText(steps); got != want {
		t.Errorf("StepsText = %q, want %q", got, want)
	}
	if got := impl.StepsText(slices.Repeat(steps, 1000)); got != strings.Repeat(want, 1000) {
		t.Errorf("StepsText of 3000 steps has %d bytes", len(got))
	}
}

func introduced(scope int, result impl.Form) string {
	return textOf(impl.IntroducedNames(impl.Step{Id: -1, Rule: -5, Scope: scope, Result: result}))
}

func TestIntroducedNames(t *testing.T) {
	for _, c := range []struct {
		scope        int
		result, want string
	}{
		{3, "x{3}", "(x{3})"},
		{3, "x", "()"},
		{3, "x{2,4}", "()"},
		{3, "x{30}", "()"},
		{3, "5", "()"},
		{3, "()", "()"},
		{1, "x{1,2,3}", "(x{1,2,3})"},
		{2, "x{1,2,3}", "(x{1,2,3})"},
		{3, "x{1,2,3}", "(x{1,2,3})"},
		{99, "(x{99} x{98})", "(x{99})"},
		{1, "(x{1} x)", "(x{1})"},
		// Each name is told once, at its first place. Names that differ in scopes are different names.
		{3, "(y{3} x{3} y{3} (x{3} z{3}) y{3})", "(y{3} x{3} z{3})"},
		{3, "(x{3} x{1,3} x{3,4} x x{1,3} x{1})", "(x{3} x{1,3} x{3,4})"},
		{3, "(x{1,3} (((x{3}))) x{1,3})", "(x{1,3} x{3})"},
		{3, "(... _{3} ...{3} ...{3})", "(_{3} ...{3})"},
		{3, "((b{1,3} (a{1} (b{2,3} 7))) () b{1,3} a{3})", "(b{1,3} b{2,3} a{3})"},
		// What is no scope.
		{0, "(x x{1})", "()"},
		{-1, "(x x{1})", "()"},
		{100, "(x x{99})", "()"},
		{math.MaxInt, "(x x{99})", "()"},
		{math.MinInt, "(x x{1})", "()"},
	} {
		if got := introduced(c.scope, parse(t, c.result)); got != c.want {
			t.Errorf("the names that %s has with the scope %d are %s, want %s", c.result, c.scope, got, c.want)
		}
	}
	// There can be as many names as nodes.
	var names []impl.Form
	for i := range 399 {
		names = append(names, nameForm(fmt.Sprint("x", i), 7))
	}
	if got := introduced(7, listForm(names...)); got != textOf(names) {
		t.Errorf("of 399 names, IntroducedNames are %s", got)
	}
}

func TestIntroducedNamesRefuses(t *testing.T) {
	for what, f := range invalidForms() {
		for _, scope := range []int{-1, 0, 1, 2, 5, 24, 99, 100} {
			if got := introduced(scope, f); got != "()" {
				t.Errorf("with %s, the names with the scope %d are %s", what, scope, got)
			}
		}
	}
	for what, f := range map[string]impl.Form{
		"a name with the scope 0":        nameForm("x", 0),
		"a name with the scope 100":      nameForm("x", 100),
		"a name with falling scopes":     listForm(nameForm("y", 100), nameForm("x", 100, 0)),
		"another name that is not valid": listForm(nameForm("y", 1), nameForm("X")),
		"a list with scopes":             {Kind: impl.KindList, Scopes: []int{1}},
		"too many nodes":                 listForm(slices.Repeat([]impl.Form{nameForm("y", 1)}, 400)...),
		"itself":                         selfHolding(),
	} {
		for _, scope := range []int{0, 1, 100} {
			if got := introduced(scope, f); got != "()" {
				t.Errorf("with %s, the names with the scope %d are %s", what, scope, got)
			}
		}
	}
	// The use does not matter.
	s := impl.Step{Scope: 2, Use: selfHolding(), Result: nameForm("x", 2)}
	if got := textOf(impl.IntroducedNames(s)); got != "(x{2})" {
		t.Errorf("with a use that holds itself, IntroducedNames = %s", got)
	}
}

func TestIntroducedNamesOfSteps(t *testing.T) {
	program := parse(t, "(let ((tmp 5) (z 6)) (let-syntax ((swap (rules () ((_ a b) (let ((tmp a)) (list b tmp)))) ) (or "+orRules+")) (or (swap tmp z) t)))")
	steps, end := impl.TraceForm(program, 9)
	var names []string
	for _, s := range steps {
		names = append(names, impl.FormatForm(impl.StripForm(listForm(impl.IntroducedNames(s)...))))
	}
	if got := strings.Join(names, " "); end != impl.ExpandOk || got != "(let t if or) (let tmp list) ()" {
		t.Errorf("the introduced names are %s, and the end is %d", got, end)
	}
}

func spoilSteps(steps []impl.Step) {
	steps = steps[:cap(steps)]
	for i := range steps {
		spoil(steps[i].Use)
		spoil(steps[i].Result)
		steps[i] = impl.Step{Id: 777}
	}
}

func TestTracesShareNoMemory(t *testing.T) {
	// Uses are parts of the form, of other uses, and of results. A step that makes a macro gives it a template.
	f := roomyCopy(parse(t, "(let-syntax ((m (rules () ((_ a{7} ...) (quote (a{7} ... (b{6})))))) (twice (rules () ((_ a) (f a a)))) "+
		"(def (rules () ((_ k v) (let-syntax ((k (rules () ((_) (f v v))))) (f (k) (k))))))) (f (twice (m x{5} (y))) (def n (m z))))"))
	before := memoryOfForm(f)
	first, _ := impl.TraceForm(f, 60)
	again, end := impl.TraceForm(f, 60)
	want := stepLines(again)
	if end != impl.ExpandOk || len(again) != 10 || stepLines(first) != want || memoryOfForm(f) != before {
		t.Fatalf("TraceForm has %d steps, ends with %d, or changes its argument:\n%s", len(again), end, want)
	}
	for i := range first {
		result := impl.FormatForm(again[i].Result)
		checkPartsOfForm(t, first[i].Use)
		if impl.FormatForm(first[i].Result) != result {
			t.Errorf("the result of the step %d shares memory with its use", i)
		}
		checkPartsOfForm(t, first[i].Result)
		if stepLines(first[i+1:]) != stepLines(again[i+1:]) {
			t.Errorf("the step %d shares memory with one behind it", i)
		}
	}
	spoilSteps(first)
	if memoryOfForm(f) != before || stepLines(again) != want {
		t.Error("TraceForm shares memory with its argument or another result")
	}
	counts, _ := impl.UsesOf(f, 60)
	others, _ := impl.UsesOf(f, 60)
	for i := range counts[:cap(counts)] {
		counts[:cap(counts)][i] = 777
	}
	if !slices.Equal(others, []int{6, 1, 1, 2}) || memoryOfForm(f) != before {
		t.Errorf("UsesOf shares memory with another result, which is %v, or its argument", others)
	}
}

// checkPartsOfForm spoils all parts of a form, and finds those that share memory with one behind them.
func checkPartsOfForm(t *testing.T, f impl.Form) {
	t.Helper()
	for i, kid := range f.Kids {
		rest := textOf(f.Kids[i+1:])
		checkPartsOfForm(t, kid)
		spoil(kid)
		if textOf(f.Kids[i+1:]) != rest {
			t.Errorf("parts of %s share memory", impl.FormatForm(f))
		}
	}
	spoil(f)
}

func TestStepsAreNotChanged(t *testing.T) {
	steps := []impl.Step{
		holding(roomyCopy(parse(t, "(m x{1,3} (y))")), roomyCopy(parse(t, "(f{3} x{1,3} y{3} y{1,3} (x{1,3} 5))"))),
		{Scope: 3, Use: roomyCopy(nameForm("x", 3)), Result: roomyCopy(nameForm("y", 3))},
		{Use: numForm(1), Result: numForm(2)},
	}
	steps[0].Scope = 3
	memory := func() string {
		text := fmt.Sprint(len(steps))
		for _, s := range steps {
			text += fmt.Sprint(s.Id, s.Rule, s.Scope, memoryOfForm(s.Use), memoryOfForm(s.Result))
		}
		return text
	}
	before := memory()
	text := impl.StepsText(steps[:2])
	first := impl.IntroducedNames(steps[0])
	again := impl.IntroducedNames(steps[0])
	if text != "(m x (y)) -> (f x y y (x 5))\nx -> y\n" || textOf(again) != "(f{3} x{1,3} y{3} y{1,3})" || memory() != before {
		t.Fatalf("StepsText = %q, IntroducedNames = %s, or an argument is changed", text, textOf(again))
	}
	checkPartsOfForm(t, listForm(first...))
	spoilForms(first[:cap(first)])
	if memory() != before || textOf(again) != "(f{3} x{1,3} y{3} y{1,3})" {
		t.Error("IntroducedNames share memory with the argument or another result")
	}
	alone := impl.IntroducedNames(steps[1])
	spoilForms(alone[:cap(alone)])
	if memory() != before {
		t.Error("the name of a result shares memory with it")
	}
}

func TestTracesKeepNoState(t *testing.T) {
	f := parse(t, macroOf("((_ a) (let ((x a)) (f x a)))", "(lambda (x) (m x))"))
	want := traced(t, f, 60)
	others := []impl.Form{selfHolding(), parse(t, macroOf("((_) (m))", "(m)")), parse(t, macroOf("((_ a) ())", "(m 5)"))}
	for i := range 20 {
		traced(t, others[i%3], i)
		if got := traced(t, f, 60); got != want {
			t.Fatalf("the steps are\n%s\nwant\n%s", got, want)
		}
	}
}

func TestTracesOfMuchWork(t *testing.T) {
	// Each of 60 steps has a use and a result with nearly as many nodes as a form can have, and names with many scopes.
	all := impl.FormatForm(nameForm("x", scopesUpTo(99)[80:97]...))
	f := parse(t, macroOf("((_ a ...) (m a ...))", "(m"+strings.Repeat(" "+all, 380)+")"))
	steps, end := impl.TraceForm(f, 60)
	if len(steps) != 60 || end != impl.ExpandSpent {
		t.Fatalf("there are %d steps, and the end is %d", len(steps), end)
	}
	for i, s := range steps {
		if impl.FormSize(s.Use) != 382 || len(impl.IntroducedNames(s)) != 1 {
			t.Errorf("the step %d has %d nodes and introduces %s", i, impl.FormSize(s.Use), textOf(impl.IntroducedNames(s)))
		}
	}
	if text := impl.StepsText(steps); strings.Count(text, "\n") != 60 || len(text) != 60*(2*len("(m"+strings.Repeat(" x", 380)+")")+5) {
		t.Errorf("StepsText has %d bytes", len(text))
	}
}
