package tests

import (
	"math"
	"strings"
	"testing"

	"loop.example/macroexpander/impl"
)

// ran returns what RunForm tells of a form: the text of its value, or the end of the expansion or of the evaluation.
func ran(t *testing.T, f impl.Form, budget int, fuel int) string {
	t.Helper()
	text, end, last := impl.RunForm(f, budget, fuel)
	if end < 0 || end >= len(endNames) || last < 0 || last >= len(evalEnds) {
		t.Fatalf("RunForm of %s = %q, %d, %d", impl.FormatForm(f), text, end, last)
	}
	if last == impl.EvalOk {
		if end != impl.ExpandOk || text == "" {
			t.Errorf("RunForm of %s = %q, %s, %s", impl.FormatForm(f), text, endNames[end], evalEnds[last])
		}
		return text
	}
	if text != "" || end != impl.ExpandOk && last != impl.EvalBad {
		t.Errorf("RunForm of %s = %q, %s, %s", impl.FormatForm(f), text, endNames[end], evalEnds[last])
	}
	if end != impl.ExpandOk {
		return endNames[end]
	}
	return "evaluation: " + evalEnds[last]
}

func checkRuns(t *testing.T, cases []expandCase) {
	t.Helper()
	for _, c := range cases {
		if got := ran(t, parse(t, c.text), 60, 3000); got != c.want {
			t.Errorf("the value of %s is %s, want %s", c.text, got, c.want)
		}
	}
}

func TestMacrosOfTheLibrary(t *testing.T) {
	checkRuns(t, []expandCase{
		{"(and 5)", "5"}, {"(and 1 2 3)", "3"}, {"(and 0 2 3)", "0"}, {"(and 1 0 3)", "0"}, {"(and 1 2 0)", "0"}, {"(and (list) 7)", "7"},
		{"(or 5)", "5"}, {"(or 1 2 3)", "1"}, {"(or 0 2 3)", "2"}, {"(or 0 0 3)", "3"}, {"(or 0 0 0)", "0"}, {"(or (list) 7)", "()"},
		{"(not 0)", "1"}, {"(not 1)", "0"}, {"(not list)", "0"}, {"(not (not 5))", "1"},
		{"(when 1 2)", "2"}, {"(when 0 2)", "0"}, {"(when (not 0) (quote (and or)))", "(and or)"},
		{"(cond (1 2))", "2"}, {"(cond (0 2))", "0"}, {"(cond (0 2) (3 4) (5 6))", "4"}, {"(cond (else 7))", "7"}, {"(cond (0 5) (else 7))", "7"},
		{"(cond ((< 2 1) 5) ((= 1 1) 6) (else 7))", "6"}, {"(cond (0 1) (0 2) (0 3))", "0"},
		{"(let* () 5)", "5"}, {"(let* ((x 1)) x)", "1"}, {"(let* ((x 1) (y (+ x 1))) (list x y))", "(1 2)"}, {"(let* ((x 1) (x (+ x 1))) x)", "2"},
		{"(swap 1 2)", "(2 1)"}, {"(swap (swap 1 2) (swap 3 4))", "((4 3) (2 1))"},
		// What is not chosen is not evaluated.
		{"(and 0 (1))", "0"}, {"(or 1 (1))", "1"}, {"(when 0 (1))", "0"}, {"(cond (1 2) ((1) 3) (4 (1)))", "2"}, {"(and 1 (1) 0)", "evaluation: call"},
		{"(or (+ 400 700) 2)", "100"},
		// All of them, one in the other, and as values of functions.
		{"(let* ((p (and 1 2)) (q (or 0 p))) (cond ((not p) 8) ((when q 0) 9) (else (swap p (or (and p 0) q)))))", "(2 2)"},
		{"((lambda (x) (cond ((< x 5) (quote less)) (else (or (and (< x 9) x) 10)))) 7)", "7"},
		{"(lambda (and or) (and or))", "#fun2"}, {"list", "list"}, {"(list list (lambda () 1) (quote a))", "(list #fun0 a)"},
	})
}

func TestMacrosWithoutArguments(t *testing.T) {
	checkRuns(t, []expandCase{
		{"(and)", "1"}, {"(or)", "0"}, {"(cond)", "0"}, {"(list (and) (or) (cond))", "(1 0 0)"}, {"(or (or) (and))", "1"},
		{"(not)", "rule"}, {"(when)", "rule"}, {"(let*)", "rule"}, {"(swap)", "rule"},
	})
	for _, name := range libraryNames() {
		checkRuns(t, []expandCase{
			{name, "use"}, {"(list " + name + ")", "use"}, {"(let ((x " + name + ")) 1)", "use"}, {"(quote " + name + ")", name},
			{"(quote (" + name + "))", "(" + name + ")"},
		})
	}
}

func TestUsesThatMatchNoRule(t *testing.T) {
	for _, text := range []string{
		"(not 1 2)", "(when 1)", "(when 1 2 3)", "(swap 1)", "(swap 1 2 3)",
		"(cond 1)", "(cond ())", "(cond (1))", "(cond (1 2 3))", "(cond (else))", "(cond (else 1 2))", "(cond (1 2) 3)", "(cond (0 1) (else))",
		"(let* 1)", "(let* ())", "(let* () 1 2)", "(let* x 1)", "(let* 5 1)", "(let* (x) 1)", "(let* ((x)) 1)", "(let* ((x 1 2)) 1)", "(let* ((x 1) y) 1)",
		"(let* ((x 1)))", "(list 1 (lambda (x) (when)))",
	} {
		checkRuns(t, []expandCase{{text, "rule"}})
	}
}

// TestNamesOfTheLibraryThatAreBoundAgain has names of macros that stand for other things.
func TestNamesOfTheLibraryThatAreBoundAgain(t *testing.T) {
	for _, name := range libraryNames() {
		checkRuns(t, []expandCase{
			{"(let ((" + name + " list)) (" + name + " 1 2))", "(1 2)"},
			{"((lambda (" + name + ") (" + name + " " + name + ")) list)", "(list)"},
			{"(let ((" + name + " 5)) " + name + ")", "5"},
			{"(let ((q 0)) (let* ((" + name + " 5) (x " + name + ")) (list x " + name + ")))", "(5 5)"},
			{"(let-syntax ((" + name + " (rules () ((_ a) (quote (a a)))))) (" + name + " 3))", "(3 3)"},
			{"(let-syntax ((" + name + " (rules ()))) (" + name + " 3))", "rule"},
			{"(list (let ((" + name + " +)) (" + name + " 1 2)) (quote " + name + "))", "(3 " + name + ")"},
		})
	}
	checkRuns(t, []expandCase{
		{"(let ((or (or 0 5))) or)", "5"},
		{"(let ((or list) (x 1)) (list (and x (or 0 x)) (let ((and +)) (and x 2))))", "((0 1) 3)"},
		{"(let ((and list)) (or 0 (and 1 2)))", "(1 2)"},
		{"(let ((or 5)) (or 0))", "evaluation: call"},
		{"(let ((cond 1)) (when cond (cond)))", "evaluation: call"},
		// Rules that use their own macro mean that of the library, wherever they are used.
		{"(let ((x (lambda (and) (and 1)))) (x (lambda (n) (and n 2 3))))", "3"},
		{"((lambda (f) (let ((or 0)) (f or))) (lambda (x) (or x 0 9)))", "9"},
		{"(let-syntax ((m (rules () ((_ x) (or 0 0 x))))) (let ((or 5)) (m or)))", "5"},
		{"(let-syntax ((m (rules () ((_ x) (cond (0 1) (0 2) (else x)))))) (let ((cond 5) (else 6)) (list (m cond) (m else))))", "(5 6)"},
		{"(let-syntax ((m (rules () ((_ x) (let* ((y x) (z y)) z))))) (let ((let* 5)) (m let*)))", "5"},
		// Within a macro of the same name that the program binds, its name means this one.
		{"(let-syntax ((or (rules () ((_) 7) ((_ a b ...) (list a (or b ...)))))) (or 1 2))", "(1 (2 7))"},
		{"(list (or 0 1) (let-syntax ((or (rules () ((_ a b) (list b a))))) (or 0 1)) (or 0 2))", "(1 (1 0) 2)"},
	})
}

func TestLiteralsThatAreBoundAtTheUse(t *testing.T) {
	checkRuns(t, []expandCase{
		{"(let ((else 0)) (cond (else 5)))", "0"},
		{"(let ((else 1)) (cond (else 5)))", "5"},
		{"(let ((else 0)) (cond (else 5) (1 6)))", "6"},
		{"(lambda (else) (cond (else 5) (else 6)))", "#fun1"},
		{"((lambda (else) (cond (0 1) (else 5))) 0)", "0"},
		{"(let* ((else 0)) (cond (else 5)))", "0"},
		{"(let ((x 0)) (list (cond (else 5)) (let ((else x)) (cond (else 5))) (cond (0 1) (else 6))))", "(5 0 6)"},
		{"(let ((else 0)) (cond (else (cond (else 5))) (1 (cond (else 6) (7 8)))))", "8"},
		{"(let-syntax ((else (rules ()))) (cond (else 5)))", "use"},
		{"(let-syntax ((else (rules () ((_) 3)))) (cond (0 5) ((else) 6)))", "6"},
		// A name that stands for the same, and one that is no literal.
		{"(let ((else2 1)) (cond (else2 5)))", "5"},
		{"(cond (else{5} 5))", "5"},
		{"(let ((q 0)) (cond (else 5)))", "5"},
		// Only the last one of the parts can have the literal. Another one is a condition, in which nothing binds it.
		{"(cond (else 5) (1 6))", "evaluation: free"},
		{"(cond (1 6) (else 5) (1 7))", "6"},
		{"(cond (0 6) (else 5) (1 7))", "evaluation: free"},
		{"(cond ((else) 5))", "evaluation: free"},
		// A macro of the program adds the literal, or takes it from its use.
		{"(let-syntax ((m (rules () ((_ a) (cond (a 1) (else 2)))))) (let ((else 0)) (list (m else) (m 3))))", "(2 1)"},
		{"(let-syntax ((m (rules () ((_ e) (cond (0 1) (e 2)))))) (list (m else) (let ((else 0)) (m else))))", "(2 0)"},
	})
}

// TestLibraryCapturesNoNames has names of uses that are also names in the rules of the library.
func TestLibraryCapturesNoNames(t *testing.T) {
	checkRuns(t, []expandCase{
		{"(let ((t 7)) (or 0 t))", "7"},
		{"(let ((t 7)) (or 0 0 t))", "7"},
		{"(let ((t 0) (u 6)) (or t u t))", "6"},
		{"(let ((t 5)) (or 0 (let ((t 6)) (or 0 t)) t))", "6"},
		{"(or 0 t)", "evaluation: free"},
		{"(let ((tmp 1) (z 2)) (swap tmp z))", "(2 1)"},
		{"(let ((tmp 1) (z 2)) (swap z tmp))", "(1 2)"},
		{"(let ((tmp 4)) (swap tmp tmp))", "(4 4)"},
		{"(let ((tmp 1)) (swap (swap tmp 2) (swap 3 tmp)))", "((1 3) (2 1))"},
		{"(swap 1 tmp)", "evaluation: free"},
		// Variables of patterns are no variables of programs.
		{"(let ((a 1) (b 2)) (list (and b a) (or 0 b a) (not a) (when b a) (swap a b)))", "(1 2 0 1 (2 1))"},
		{"(let ((c 0) (e 1) (r 2)) (cond (c e) (e r) (r c)))", "2"},
		{"(let* ((x 1) (v x) (r v) (b r)) (list b r v x))", "(1 1 1 1)"},
		// What the rules use is what it is around the program.
		{"(let ((if list)) (and 1 2))", "2"},
		{"(let ((if list)) (list (if 1 2 3) (not 1) (when 1 5) (or 0 6) (cond (0 1) (else if))))", "((1 2 3) 0 5 6 list)"},
		{"(let ((let 5)) (or 0 let))", "5"},
		{"(let ((let 5)) (let* ((x 1) (y let)) (list x y)))", "(1 5)"},
		{"(let ((list +)) (list (swap 1 2)))", "evaluation: args"},
		{"(let ((list +)) (swap 1 2))", "(2 1)"},
		{"(let ((list +) (tmp 3)) (swap (list tmp 4) list))", "(+ 7)"},
		{"(let* ((let 1) (if 2) (list 3)) (swap (or 0 let) (and if list)))", "(3 1)"},
		{"(let ((lambda 1) (quote 2)) (or 0 (and lambda quote)))", "2"},
		{"((lambda (or t if let) (and or (or t if let))) list 1 2 3)", "(1 2 3)"},
		// A macro of the program in between.
		{"(let-syntax ((m (rules () ((_ e) (let ((t 1)) (or e t)))))) (let ((t 0)) (list (m t) (m 5))))", "(1 5)"},
		{"(let-syntax ((m (rules () ((_ e) (let ((tmp 1)) (swap tmp e)))))) (let ((tmp 2)) (m tmp)))", "(2 1)"},
		{"(let-syntax ((t (rules () ((_) 4)))) (or 0 (t)))", "4"},
	})
}

// TestLibraryInItsOwnRegion tells what the rules of expansion make of a let* that binds its own name, and is in no
// further region: the name of the template is within what the name of the use binds.
func TestLibraryInItsOwnRegion(t *testing.T) {
	checkRuns(t, []expandCase{
		{"(let* ((let* 1)) let*)", "forms"},
		{"(let* ((let* list) (x 2)) 3)", "evaluation: free"},
		{"(let* ((x 2) (let* 1)) (list let* x))", "(1 2)"},
		{"(let () (let* ((let* 1)) let*))", "1"},
		{"(let () (let* ((let* list) (x 2)) (let* x)))", "(2)"},
	})
}

func TestRunFormEnds(t *testing.T) {
	checkRuns(t, []expandCase{
		{"()", "forms"}, {"(or 0 ())", "forms"}, {"(lambda (x x) (and))", "forms"}, {"(let* ((5 1)) 2)", "forms"}, {"(let* ((5 if)) 2)", "use"},
		{"(f (lambda (x{7}) 1) (lambda (x{8}) (or 1)) x{2,3,7,8})", "many"},
		{"(if 1 2 (let*))", "rule"}, {"(if 1 2 (or 1 (not)))", "rule"},
		{"(list if)", "use"}, {"else", "evaluation: free"}, {"(and 1 nothing)", "evaluation: free"}, {"(5)", "evaluation: call"},
		{"(or 0 (5 6))", "evaluation: call"}, {"(+ 1 list)", "evaluation: args"}, {"((lambda (x) x))", "evaluation: args"},
		{"((lambda (w) (or 0 (w w))) (lambda (w) (or 0 (w w))))", "evaluation: fuel"},
	})
	// The library gives a further scope to each name that does not have it, and a use gives one to those in it.
	dressed := func(scopes ...int) string { return impl.FormatForm(nameForm("x", scopes...)) }
	most := scopesUpTo(73)[49:]
	checkRuns(t, []expandCase{
		{dressed(most...), "spent"},
		{dressed(most[1:]...), "evaluation: free"},
		{dressed(append([]int{1}, most[1:]...)...), "evaluation: free"},
		{"(or " + dressed(append([]int{1}, most[1:]...)...) + ")", "spent"},
		{"(or " + dressed(most[2:]...) + ")", "evaluation: free"},
	})
}

func TestRunFormWithABudget(t *testing.T) {
	for text, steps := range map[string]int{
		"5": 0, "(list 1)": 0, "(and)": 1, "(not 1)": 1, "(swap 1 2)": 1, "(or 1 2 3)": 3, "(let* ((x 1) (y 2)) x)": 3, "(cond (0 1) (else 2))": 2,
		"(or 0" + strings.Repeat(" 0", 33) + ")": 34,
	} {
		f := parse(t, text)
		want := ran(t, f, 60, 3000)
		for budget := range 61 {
			got := ran(t, f, budget, 3000)
			if budget >= steps && got != want || budget < steps && got != "spent" {
				t.Errorf("with the budget %d, the value of %s is %s", budget, text, got)
			}
		}
		for _, budget := range []int{-1, 61, math.MinInt, math.MaxInt} {
			if got := ran(t, f, budget, 3000); got != "bad" {
				t.Errorf("with the budget %d, the value of %s is %s", budget, text, got)
			}
		}
	}
}

func TestRunFormWithFuel(t *testing.T) {
	for text, used := range map[string]int{
		"5": 1, "(and)": 1, "(not 0)": 3, "(and 1 2)": 3, "(or 7 8)": 6, "(or 0 8)": 6, "(list 1 2)": 4, "(swap 1 2)": 7,
		"(let* ((x 1)) (cond (0 2) (x 3)))": 8,
	} {
		f := parse(t, text)
		want := ran(t, f, 60, 3000)
		for fuel := range 20 {
			got := ran(t, f, 60, fuel)
			if fuel >= used && got != want || fuel < used && got != "evaluation: fuel" {
				t.Errorf("with the fuel %d, the value of %s is %s", fuel, text, got)
			}
		}
		for _, fuel := range []int{-1, 3001, math.MinInt, math.MaxInt} {
			if got := ran(t, f, 60, fuel); got != "evaluation: bad" {
				t.Errorf("with the fuel %d, the value of %s is %s", fuel, text, got)
			}
			if got := ran(t, f, 61, fuel); got != "bad" {
				t.Errorf("with the budget 61 and the fuel %d, the value of %s is %s", fuel, text, got)
			}
		}
	}
}

// TestRunFormOfAFormWithLibrary has a form with the library twice, and forms that have scopes.
func TestRunFormOfAFormWithLibrary(t *testing.T) {
	for _, text := range []string{
		"(let ((t 7)) (or 0 t))", "(cond (0 1) (else (swap 1 2)))", "(let* ((x 1) (y x)) (and x y))", "(let ((not list)) (not 1 2))", "5", "(not)",
	} {
		f := parse(t, text)
		want := ran(t, f, 60, 3000)
		g, ok := impl.WithLibrary(f)
		if got := ran(t, g, 60, 3000); !ok || got != want {
			t.Errorf("the value of %s is %s, and with the library twice %s, %v", text, want, got, ok)
		}
	}
	checkRuns(t, []expandCase{
		{"(or{5} 0 3)", "3"},
		{"(or{1} 0 3)", "3"},
		{"(let ((x{5} 1) (x 2)) (swap x{5,6} x))", "(2 1)"},
		{"(let ((and{5} list)) (list (and 1 2) (and{5} 1 2)))", "(2 (1 2))"},
	})
}

func TestRunFormIsWhatItsPartsAre(t *testing.T) {
	for _, text := range []string{
		"(let ((t 7)) (or 0 t))", "(or 1 ())", "(not)", "(and 1 list)", "(swap x 1)", "(let ((f (lambda (n) (when n (list n))))) (list f (f 0) (f 5)))",
	} {
		f := roomyCopy(parse(t, text))
		before := memoryOfForm(f)
		program, ok := impl.WithLibrary(f)
		v, end, last := impl.EvalForm(program, 9, 50)
		want := ""
		if last == impl.EvalOk {
			want = impl.FormatValue(v)
		}
		for range 3 {
			got, endOfRun, lastOfRun := impl.RunForm(f, 9, 50)
			if !ok || got != want || endOfRun != end || lastOfRun != last || memoryOfForm(f) != before {
				t.Errorf("RunForm of %s = %q, %d, %d, want %q, %d, %d", text, got, endOfRun, lastOfRun, want, end, last)
			}
			ran(t, selfHolding(), 9, 50)
		}
	}
}
