package tests

import (
	"fmt"
	"math"
	"slices"
	"strings"
	"testing"

	"loop.example/macroexpander/impl"
)

// naivelyExpanded returns the text of the core program of a naive expansion, or how it ends.
func naivelyExpanded(t *testing.T, f impl.Form, budget int) string {
	t.Helper()
	c, end := impl.NaiveForm(f, budget)
	if end < 0 || end >= len(endNames) {
		t.Fatalf("NaiveForm of %s ends with %d", impl.FormatForm(f), end)
	}
	if end != impl.ExpandOk {
		if !isZeroCore(c) {
			t.Errorf("with the end %s, the program is %v", endNames[end], c)
		}
		return endNames[end]
	}
	if !impl.CoreValid(c) {
		t.Errorf("the program of %s is not valid: %v", impl.FormatForm(f), c)
	}
	return impl.FormatCore(c)
}

func checkNaive(t *testing.T, budget int, cases []expandCase) {
	t.Helper()
	for _, c := range cases {
		if got := naivelyExpanded(t, parse(t, c.text), budget); got != c.want {
			t.Errorf("%s naively becomes %s, want %s", c.text, got, c.want)
		}
	}
}

func TestNaiveCoreForms(t *testing.T) {
	checkNaive(t, 0, []expandCase{
		{"0", "0"},
		{"999", "999"},
		{"x", "x"},
		{"...", "..."},
		{"(f x (g 1) 2)", "(f x (g 1) 2)"},
		{"((f) 1)", "((f) 1)"},
		{"(1 2)", "(1 2)"},
		{"(if a (if 1 2 3) (quote (x 1)))", "(if a (if 1 2 3) '(x 1))"},
		{"(quote (if lambda (let) ()))", "'(if lambda (let) ())"},
		{"(lambda () 1)", "(fun () 1)"},
		{"(lambda (x y z) (z x y w))", "(fun (#11 #12 #13) (#13 #11 #12 w))"},
		{"(lambda (... _) (_ ...))", "(fun (#11 #12) (#12 #11))"},
		{"(lambda (x) (lambda (y) (x y)))", "(fun (#11) (fun (#12) (#11 #12)))"},
		{"(lambda (x) (lambda (x) x))", "(fun (#11) (fun (#12) #12))"},
		{"(let () 1)", "((fun () 1))"},
		{"(let ((x 1) (y x)) (y x))", "((fun (#11 #12) (#12 #11)) 1 x)"},
		{"(let ((x (lambda (y) y)) (z (let ((y 2)) y))) (x z))",
			"((fun (#13 #14) (#13 #14)) (fun (#11) #11) ((fun (#12) #12) 2))"},
		{"(let ((if list)) (if 1 2))", "((fun (#11) (#11 1 2)) list)"},
		{"(lambda (quote) (quote x))", "(fun (#11) (#11 x))"},
		{"(let-syntax () (lambda (x) x))", "(fun (#11) #11)"},
		{"(let-syntax ((m (rules ())) (n (rules ()))) (lambda (x) x))", "(fun (#13) #13)"},
	})
}

// TestNamesBoundAgainBehindABody has names that stand behind a body for what they stood for in front of it.
func TestNamesBoundAgainBehindABody(t *testing.T) {
	checkNaive(t, 9, []expandCase{
		{"(f (lambda (x) x) x)", "(f (fun (#11) #11) x)"},
		{"(lambda (x) (f (lambda (x) x) x))", "(fun (#11) (f (fun (#12) #12) #11))"},
		{"(lambda (x y) (f (lambda (y x) (x y)) x y))", "(fun (#11 #12) (f (fun (#13 #14) (#14 #13)) #11 #12))"},
		{"(let ((x 1)) (f (let ((x x)) x) x))", "((fun (#11) (f ((fun (#12) #12) #11) #11)) 1)"},
		{"(let ((x (lambda (y) y)) (z y)) (y x z))", "((fun (#12 #13) (y #12 #13)) (fun (#11) #11) y)"},
		{"(lambda (x) (let ((x (let ((x x)) x)) (y x)) (x y)))", "(fun (#11) ((fun (#13 #14) (#13 #14)) ((fun (#12) #12) #11) #11))"},
		{"(lambda (x) (f (lambda (y) (lambda (x) (x y))) x y))", "(fun (#11) (f (fun (#12) (fun (#13) (#13 #12))) #11 y))"},
		{"(list (lambda (if) (if 1)) (if 1 2 3))", "(list (fun (#11) (#11 1)) (if 1 2 3))"},
		{"(list (let ((quote 1)) (quote 2)) (quote x))", "(list ((fun (#11) (#11 2)) 1) 'x)"},
		{"(f (let-syntax ((m (rules () ((_) 1)))) (m)) (m))", "(f 1 (m))"},
		{"(lambda (m) (f (let-syntax ((m (rules () ((_) 1)))) (m)) (m)))", "(fun (#11) (f 1 (#11)))"},
		{macroOf("((_) 1)", "(f (let-syntax ((m (rules () ((_) 2)))) (m)) (m))"), "(f 2 1)"},
		{macroOf("((_) 1)", "(f (lambda (m) (m)) (m))"), "(f (fun (#12) (#12)) 1)"},
		{macroOf("((_) 1)", "(let ((m (m))) m)"), "((fun (#12) #12) 1)"},
		{"(f (let-syntax ((if (rules () ((_ a b) (list b a))))) (if 1 2)) (if 1 2 3))", "(f (list 2 1) (if 1 2 3))"},
		// What a use becomes binds only in itself.
		{macroOf("((_ e) (lambda (x) e))", "(f (m x) x)"), "(f (fun (#12) #12) x)"},
		{macroOf("((_ e) (let-syntax ((n (rules () ((_) 1)))) e))", "(f (m (n)) (n))"), "(f 1 (n))"},
		{macroOf("((_ e) (let ((m 1)) e))", "(f (m (m)) (m 2))"), "(f ((fun (#12) (#12)) 1) ((fun (#13) 2) 1))"},
	})
}

func TestNaiveMacros(t *testing.T) {
	const or = "(or (rules () ((_) 0) ((_ a) a) ((_ a b ...) (let ((t a)) (if t t (or b ...))))))"
	checkNaive(t, 20, []expandCase{
		{macroOf("((_) 5)", "(m)"), "5"},
		{macroOf("((_ a ...) (f (a 1) ...))", "(m x y)"), "(f (x 1) (y 1))"},
		{macroOf("((_ a) (quote (a b)))", "(m (x b))"), "'((x b) b)"},
		{"(let-syntax ((a (rules () ((_) (b)))) (b (rules () ((_) 7)))) (a))", "7"},
		// What a template binds captures the names of the use.
		{"(let-syntax (" + or + ") (or 0 x))", "((fun (#12) (if #12 #12 x)) 0)"},
		{"(let-syntax (" + or + ") (let ((t 5)) (or 0 t)))", "((fun (#12) ((fun (#13) (if #13 #13 #13)) 0)) 5)"},
		{"(let-syntax (" + or + ") (or 0 1 t))", "((fun (#12) (if #12 #12 ((fun (#13) (if #13 #13 #13)) 1))) 0)"},
		{"(let ((tmp 5) (z 6)) (let-syntax ((swap (rules () ((_ a b) (let ((tmp a)) (list b tmp)))))) (swap tmp z)))",
			"((fun (#11 #12) ((fun (#14) (list #12 #14)) #11)) 5 6)"},
		{"(let ((tmp 5) (z 6)) (let-syntax ((swap (rules () ((_ a b) (let ((tmp a)) (list b tmp)))))) (swap z tmp)))",
			"((fun (#11 #12) ((fun (#14) (list #14 #14)) #12)) 5 6)"},
		{macroOf("((_ a) (lambda (f) (f a)))", "(m f)"), "(fun (#12) (#12 #12))"},
		// What a use binds captures the names of the template.
		{macroOf("((_ a) (lambda (a) (f a)))", "(m f)"), "(fun (#12) (#12 #12))"},
		{"(let ((y 1)) " + macroOf("((_ e) (+ y e))", "(let ((y 2)) (m y))") + ")", "((fun (#11) ((fun (#13) (+ #13 #13)) 2)) 1)"},
		{macroOf("((_) z)", "(lambda (z) (m))"), "(fun (#12) #12)"},
		{macroOf("((_ a) (if a 1 2))", "(let ((if list)) (m 5))"), "((fun (#12) (#12 5 1 2)) list)"},
		{macroOf("((_ a) (if a 1 2))", "(lambda (if) (m if))"), "(fun (#12) (#12 #12 1 2))"},
		{macroOf("((_) (n))", "(let-syntax ((n (rules () ((_) 7)))) (m))"), "7"},
		{macroOf("((_ a) a) ((_ a b) (m a))", "(let-syntax ((m (rules () ((_ a ...) (m2 a ...)))) (m2 (rules () ((_ a) 3)))) (m 1))"), "3"},
		{macroOf("((_ a b) (m a))", "(lambda (m) (m 1 2))"), "(fun (#12) (#12 1 2))"},
		// A variable of a pattern is replaced everywhere, and so stands for what the use means by it.
		{macroOf("((_ x) (let ((y 1)) (f x y)))", "(lambda (y) (m y))"), "(fun (#12) ((fun (#13) (f #13 #13)) 1))"},
		{macroOf("((_ if) (if 1 2 3))", "(m list)"), "(list 1 2 3)"},
	})
}

func TestNaiveMacrosInMacros(t *testing.T) {
	const def = "(let-syntax ((def (rules () ((_ n v b) (let-syntax ((n (rules () ((_) v)))) b))))) "
	checkNaive(t, 20, []expandCase{
		{def + "(def k 5 (f (k))))", "(f 5)"},
		{def + "(lambda (x) (def k x (k))))", "(fun (#12) #12)"},
		{def + "(lambda (x) (def k x (let ((x 2)) (k)))))", "(fun (#12) ((fun (#14) #14) 2))"},
		{def + "(def k 5 (def k 6 (k))))", "6"},
		{def + "(list (def k 5 (k)) (def k 6 (k)) (k)))", "(list 5 6 (k))"},
		{"(let-syntax ((twice (rules () ((_ e) (let-syntax ((m (rules () ((_) e)))) (f (m) (m))))))) (lambda (m) (twice m)))", "use"},
		{"(let-syntax ((twice (rules () ((_ e) (let-syntax ((m (rules () ((_) e)))) (f (m) (m))))))) (lambda (m) (twice (m))))", "spent"},
		{"(let-syntax ((mk (rules () ((_ n) (let-syntax ((n (rules () ((_ a) (let ((x 1)) (f a x)))))) (let ((x 2)) (n x))))))) (mk m))",
			"((fun (#13) ((fun (#14) (f #14 #14)) 1)) 2)"},
		// The variables of the outer macro are replaced in the rules of the inner one.
		{"(let-syntax ((mk (rules () ((_ a) (let-syntax ((n (rules () ((_ a) (f a))))) (n 1)))))) (mk b))", "(f 1)"},
		{"(let-syntax ((mk (rules () ((_ a) (let-syntax ((n (rules (a) ((_ a) 1) ((_ b) 2)))) (list (n a) (n c))))))) (mk k))", "(list 1 2)"},
		{"(let-syntax ((mk (rules () ((_ a) (let-syntax ((n (rules () ((_ a) 1)))) (n 1)))))) (mk 5))", "rule"},
		{"(let-syntax ((mk (rules () ((_ a) (let-syntax ((n (rules () ((_ b) a)))) (n 1)))))) (mk b))", "1"},
		{"(let-syntax ((mk (rules () ((_ a) (let-syntax ((a (rules () ((_) 4)))) (m)))))) (let-syntax ((m (rules () ((_) 5)))) (list (mk m) (mk n) (m))))",
			"(list 4 5 5)"},
	})
}

func TestNaiveLiterals(t *testing.T) {
	const cond = "(cond (rules (else) ((_ else a) a) ((_ b a) (if b a 0))))"
	checkNaive(t, 20, []expandCase{
		{"(let-syntax (" + cond + ") (cond else 4))", "4"},
		{"(let-syntax (" + cond + ") (cond x 4))", "(if x 4 0)"},
		{"(let-syntax (" + cond + ") (cond 1 4))", "(if 1 4 0)"},
		{"(let-syntax (" + cond + ") (cond (else) 4))", "(if (else) 4 0)"},
		// A literal is told by its Name only, whatever it stands for.
		{"(let-syntax (" + cond + ") (let ((else 3)) (cond else 4)))", "((fun (#12) 4) 3)"},
		{"(let-syntax (" + cond + ") (let ((else 3) (x 2)) (cond x else)))", "((fun (#12 #13) (if #13 #12 0)) 3 2)"},
		{"(lambda (else) (let-syntax (" + cond + ") (lambda (else) (cond else 4))))", "(fun (#11) (fun (#13) 4))"},
		{"(lambda (else) (let-syntax (" + cond + ") (cond x else)))", "(fun (#11) (if x #11 0))"},
		{"(let-syntax (" + cond + " (else (rules ()))) (cond else 4))", "4"},
		{"(let-syntax (" + cond + " (m (rules () ((_ a) (let ((else 0)) (cond a 1)))))) (m else))", "((fun (#13) 1) 0)"},
		{"(let-syntax ((m (rules (if) ((_ if) 1) ((_ a) 2)))) (f (m if) (m list) (lambda (if) (m if))))", "(f 1 2 (fun (#12) 1))"},
		{"(let-syntax ((m (rules (m) ((m) 1) ((m m) 2) ((_ a) 3)))) (f (m) (m m) (m 5)))", "(f 1 2 3)"},
		{"(let-syntax ((m (rules (a) ((_ a) 1) ((_ b) 2)))) (let-syntax ((a (rules ()))) (m a)))", "1"},
	})
}

func TestEndsOfNaiveExpansions(t *testing.T) {
	checkNaive(t, 20, []expandCase{
		{"if", "use"},
		{"(f let)", "use"},
		{"(let-syntax ((m (rules ()))) m)", "use"},
		{"(let-syntax ((m (rules ()))) (let ((x m)) 1))", "use"},
		{macroOf("((_) m)", "(f (m))"), "use"},
		{"(let-syntax ((m (rules ()))) (m))", "rule"},
		{macroOf("((_ a) 1) ((_ 5 6) 2)", "(m 5 7)"), "rule"},
		{macroOf("((_ a) (m))", "(m 5)"), "rule"},
		{macroOf("((_) (m))", "(m)"), "spent"},
		{macroOf("((_) ())", "(m)"), "forms"},
		{macroOf("((_ x y) (lambda (x y) 1))", "(m a b)"), "(fun (#12 #13) 1)"},
		{macroOf("((_ x y) (lambda (x y) 1))", "(m a a)"), "forms"},
		{macroOf("((_ x) (lambda (x y) 1))", "(m y)"), "forms"},
		{macroOf("((_ x) (lambda (x) 1))", "(m 5)"), "forms"},
		{macroOf("((_ x) (let ((x 1) (y 2)) 3))", "(m y)"), "forms"},
		{macroOf("((_ x) (let-syntax ((x (rules ())) (y (rules ()))) 3))", "(m y)"), "forms"},
	})
}

func TestShapesOfNaiveCoreForms(t *testing.T) {
	for _, text := range []string{
		"()", "(())", "(f ())", "(() f)", "(quote)", "(quote 1 2)", "(if)", "(if 1)", "(if 1 2)", "(if 1 2 3 4)",
		"(lambda)", "(lambda (x))", "(lambda (x) 1 2)", "(lambda x 1)", "(lambda 5 1)", "(lambda (5) 1)", "(lambda ((x)) 1)",
		"(lambda (x ()) 1)", "(lambda (x x) 1)", "(lambda (x y x) 1)", "(lambda (x y z z) 1)", "(lambda (if x if) 1)",
		"(let)", "(let ((x 1)))", "(let ((x 1)) 1 2)", "(let x 1)", "(let 5 1)", "(let (x) 1)", "(let (()) 1)", "(let ((x)) 1)",
		"(let ((x 1 2)) 1)", "(let ((5 1)) 1)", "(let (((x) 1)) 1)", "(let ((x 1) (() 1)) 1)", "(let ((x 1) (x 1)) 1)", "(let ((x 1) (y 2) (x 3)) 1)",
		"(let-syntax)", "(let-syntax ((m (rules ()))))", "(let-syntax () 1 2)", "(let-syntax m 1)", "(let-syntax (m) 1)", "(let-syntax ((m)) 1)",
		"(let-syntax ((m (rules ()) 1)) 1)", "(let-syntax ((5 (rules ()))) 1)", "(let-syntax ((m (rules ())) (n)) 1)",
		"(let-syntax ((m (rules ())) (m (rules ()))) 1)", "(let-syntax ((m (rules ())) (n (rules ())) (m (rules ()))) 1)",
		"(let-syntax ((m 1)) 1)", "(let-syntax ((m (rules))) 1)", "(let-syntax ((m (rule ()))) 1)", "(let-syntax ((m (rules x))) 1)",
		"(let-syntax ((m (rules (a a)))) 1)", "(let-syntax ((m (rules () (x 1)))) 1)", "(let-syntax ((m (rules () ((_ a ...) a)))) 1)",
		"(let-syntax ((m (rules ())) (n (rules))) 1)",
	} {
		for _, program := range []string{text, "(f " + text + ")", "(lambda (y) " + text + ")", macroOf("((_ a) a)", "(m "+text+")")} {
			checkNaive(t, 20, []expandCase{{program, "forms"}})
		}
		if got := naivelyExpanded(t, parse(t, "(quote "+text+")"), 0); !strings.HasPrefix(got, "'") {
			t.Errorf("%s ends with %s as data", text, got)
		}
	}
}

func TestNaivePartsAreExpandedInOrder(t *testing.T) {
	ways := map[string]string{"()": "forms", "(no)": "rule", "(loop)": "spent", "if": "use"}
	around := func(body string) string {
		return "(let-syntax ((no (rules ())) (loop (rules () ((_) (loop))))) " + body + ")"
	}
	for first, want := range ways {
		for second := range ways {
			for _, form := range []string{
				"((f A) B)", "(f A B)", "(1 2 A (g B))", "(if A B 1)", "(if 1 A B)", "(lambda (y) (f A B))", "((lambda (y) A) B)",
				"(let ((y A) (z B)) 1)", "(let ((y A)) B)", "(let ((y (f A)) (z 1)) B)", "(let-syntax () (f A B))",
				"(let ((y A) (y B)) 1)", "(let ((y 1) (y A)) B)", "(let ((5 A)) B)", "(let ((5 A) (() B)) B)", "(let ((y A) (5 B)) B)",
			} {
				checkNaive(t, 5, []expandCase{{around(strings.NewReplacer("A", first, "B", second).Replace(form)), want}})
			}
		}
		for _, form := range []string{
			"(if A 1)", "(lambda (y 5) A)", "(lambda (y y) A)", "(let ((5 1)) A)", "(let ((y A)) A A)", "(let ((y A) z) A)",
			"(let ((y 1) (y 1)) A)", "(let-syntax ((m 1)) A)", "(let-syntax ((5 (rules ()))) A)", "(let-syntax ((m (rules ())) (m (rules ()))) A)",
		} {
			checkNaive(t, 5, []expandCase{{around(strings.ReplaceAll(form, "A", first)), "forms"}})
		}
	}
}

func TestNaiveRefuses(t *testing.T) {
	for budget, bad := range map[int]bool{0: false, 60: false, 61: true, -1: true, math.MaxInt: true, math.MinInt: true} {
		for text, want := range map[string]string{"(f x)": "(f x)", "()": "forms", "x{1}": "bad", "(lambda (x x) x)": "forms"} {
			if bad {
				want = "bad"
			}
			checkNaive(t, budget, []expandCase{{text, want}})
		}
	}
	// A form with scopes is refused whatever else it is.
	for _, text := range []string{
		"x{1}", "x{99}", "(f (g x{2}))", "(x{1,2} ())", "(quote x{3})", "(lambda (x{1}) 1)", "(let ((x{5} 1)) 1)", "(if{1} 1 2 3)",
		"(let-syntax{1} () 1)", macroOf("((_) x{1})", "1"), macroOf("((_{2}) 1)", "1"), "(let-syntax ((m (rules{1} ()))) 1)", "(() x{1})", "(_ ...{7})",
	} {
		checkNaive(t, 60, []expandCase{{text, "bad"}})
	}
	for what, f := range invalidForms() {
		for _, g := range []impl.Form{f, listForm(f), listForm(nameForm("quote"), f), listForm(nameForm("x", 1), f)} {
			for _, budget := range []int{0, 60, 61, -1} {
				if got := naivelyExpanded(t, g, budget); got != "bad" {
					t.Errorf("%s ends with %s", what, got)
				}
			}
		}
	}
}

func TestBudgetOfNaiveSteps(t *testing.T) {
	for forms := range 60 {
		program := macroOf("((_) 7) ((_ a b ...) (m b ...))", "(m"+strings.Repeat(" 1", forms)+")")
		checkNaive(t, forms+1, []expandCase{{program, "7"}})
		checkNaive(t, forms, []expandCase{{program, "spent"}})
	}
	checkNaive(t, 3, []expandCase{
		{macroOf("((_) 1)", "(f (m) (let ((x (m))) (m)))"), "(f 1 ((fun (#12) 1) 1))"},
		{macroOf("((_) 1)", "(f (m) (let ((x (m))) (m)) (m))"), "spent"},
		{macroOf("((_) 1)", "(f (m) (m) (m 1))"), "rule"},
		{macroOf("((_) 1)", "(f (m) (m) (m) (m 1))"), "spent"},
		{macroOf("((_) 1)", "(quote ((m) (m) (m) (m)))"), "'((m) (m) (m) (m))"},
	})
	checkNaive(t, 0, []expandCase{
		{"(let-syntax ((m (rules ()))) (m))", "spent"},
		{"(let-syntax ((m (rules ()))) m)", "use"},
		{macroOf("((_) 1)", "(lambda (m) (m))"), "(fun (#12) (#12))"},
	})
}

// TestNaiveExpansionsHaveNoScopes has programs for which there are too few scopes if each function has one.
func TestNaiveExpansionsHaveNoScopes(t *testing.T) {
	deep := functions(36, "(f x)")
	wide := "(f" + strings.Repeat(" (lambda (x) x)", 60) + ")"
	long := "(f" + strings.Repeat(" "+functions(20, "1"), 6) + ")"
	steps := macroOf("((_) x) ((_ a b ...) (lambda () (m b ...)))", "(m"+strings.Repeat(" 1", 59)+")")
	for _, text := range []string{deep, wide, long, steps} {
		f := parse(t, text)
		if got := naivelyExpanded(t, f, 60); slices.Contains(endNames, got) {
			t.Errorf("%s naively ends with %s", text, got)
		}
		if _, end := impl.ExpandForm(f, 60); end != impl.ExpandSpent || impl.Captures(f, 60) {
			t.Errorf("%s ends with %s, or captures", text, endNames[end])
		}
	}
	want := strings.Repeat("(fun () ", 59) + "x" + strings.Repeat(")", 59)
	checkNaive(t, 60, []expandCase{{steps, want}})
}

// numbered returns texts in which the numbers from 0 on are put, with spaces between them.
func numbered(n int, format string) string {
	var texts []string
	for i := range n {
		texts = append(texts, fmt.Sprintf(format, i))
	}
	return strings.Join(texts, " ")
}

func TestBindingsOfNaiveExpansions(t *testing.T) {
	const all = "lambda if quote let let-syntax "
	names := func(n int) string { return numbered(n, "x%d") }
	others := func(n int) string { return numbered(n, "y%d") }
	macros := func(n int) string { return numbered(n, "(x%d (rules ()))") }
	for _, c := range []struct{ text, want string }{
		{"(lambda (" + names(55) + ") x54)", "ok"},
		{"(lambda (" + names(56) + ") x54)", "spent"},
		{"(lambda (" + all + names(55) + ") x54)", "ok"},
		{"(lambda (" + all + names(56) + ") x54)", "spent"},
		{"(lambda (if " + names(55) + ") x54)", "ok"},
		{"(lambda (if " + names(56) + ") x54)", "spent"},
		{"(let (" + numbered(55, "(x%d 1)") + ") x54)", "ok"},
		{"(let (" + numbered(56, "(x%d 1)") + ") x54)", "spent"},
		{"(let-syntax (" + macros(55) + ") 1)", "ok"},
		{"(let-syntax (" + macros(56) + ") 1)", "spent"},
		{"(let-syntax (" + macros(55) + ") (lambda (y) y))", "spent"},
		{"(let-syntax (" + macros(55) + ") (lambda (x3) x3))", "ok"},
		{"(let-syntax (" + macros(54) + ") (lambda (y) y))", "ok"},
		// A name that is bound again takes no further room, and a body gives back what it took.
		{"(lambda (" + names(55) + ") (lambda (" + names(55) + ") x54))", "ok"},
		{"(lambda (" + names(55) + ") (lambda (" + names(54) + " z) x54))", "spent"},
		{"(lambda (" + names(54) + ") (lambda (" + names(54) + " z) x53))", "ok"},
		{"(f (lambda (" + names(55) + ") 1) (lambda (" + others(55) + ") 1) (lambda (z) z))", "ok"},
		{"(f (let-syntax (" + macros(55) + ") 1) (lambda (" + others(55) + ") 1))", "ok"},
		{"(let ((x (lambda (" + others(55) + ") 1))) (lambda (" + names(54) + ") x))", "ok"},
		{"(let ((x 1)) (lambda (" + names(55) + ") x))", "spent"},
		{"(let ((x (lambda (" + names(55) + ") (lambda (y) 1)))) 1)", "spent"},
		// The values are expanded in front of binding, and the body behind it.
		{"(let (" + numbered(56, "(x%d 1)") + " (y ())) 1)", "forms"},
		{"(let (" + numbered(56, "(x%d 1)") + ") ())", "spent"},
		{"(lambda (" + names(56) + ") ())", "spent"},
		{macroOf("((_ a ...) (f (lambda (a) a) ...))", "(m "+others(60)+")"), "ok"},
	} {
		got := naivelyExpanded(t, parse(t, c.text), 60)
		if got != c.want && (c.want != "ok" || slices.Contains(endNames, got)) {
			t.Errorf("%s naively becomes %s, want %s", c.text, got, c.want)
		}
	}
}

// TestWhatNaiveExpansionsRefuseFirst binds names that cannot be bound where there is no room for them either.
func TestWhatNaiveExpansionsRefuseFirst(t *testing.T) {
	names, parts, macros := numbered(56, "x%d"), numbered(56, "(x%d 1)"), numbered(56, "(x%d (rules ()))")
	checkNaive(t, 60, []expandCase{
		{"(lambda (" + names + " x0) 1)", "forms"},
		{"(lambda (" + names + " x55) 1)", "forms"},
		{"(lambda (" + names + " y) 1)", "spent"},
		{"(lambda (" + names + " 5) 1)", "forms"},
		{"(let (" + parts + " (x0 1)) 1)", "forms"},
		{"(let (" + parts + " (5 1)) 1)", "forms"},
		{"(let (" + parts + " (y 1)) 1)", "spent"},
		{"(let-syntax (" + macros + " (x0 (rules ()))) 1)", "forms"},
		{"(let-syntax (" + macros + " (5 (rules ()))) 1)", "forms"},
		// The rules of a macro are read in front of binding it, and behind binding those in front of it.
		{"(let-syntax (" + numbered(55, "(x%d (rules ()))") + " (y (rules ()))) 1)", "spent"},
		{"(let-syntax (" + numbered(55, "(x%d (rules ()))") + " (y (rules))) 1)", "forms"},
		{"(let-syntax ((y (rules)) " + macros + ") 1)", "forms"},
		{"(let-syntax (" + macros + " (y (rules))) 1)", "spent"},
	})
}

// TestNumbersOfNaiveExpansions gives more numbers than a variable can have.
func TestNumbersOfNaiveExpansions(t *testing.T) {
	const uses = 20
	// Each use of m binds 50 variables, or 50 macros.
	functions := "((_) (lambda (" + numbered(50, "x%d") + ") x49))"
	macros := "((_) (let-syntax (" + numbered(50, "(x%d (rules ()))") + ") 1))"
	inOrder := func(n int, last string) string { return "(f" + strings.Repeat(" (m)", n) + last + ")" }
	ends := map[string]string{
		macroOf(functions, inOrder(uses, "")):                         "spent",
		macroOf(functions, inOrder(uses, " ()")):                      "forms",
		macroOf(functions, inOrder(uses, " if")):                      "use",
		macroOf(functions, inOrder(uses-1, " ()")):                    "forms",
		macroOf(macros, inOrder(uses, " (lambda (y) y)")):             "spent",
		macroOf(macros, inOrder(uses, " ()")):                         "forms",
		macroOf(macros, inOrder(40, " (let-syntax ((y 1)) 2)")):       "forms",
		macroOf(macros, inOrder(40, " (let-syntax ((y (rules))) 2)")): "forms",
	}
	for text, want := range ends {
		checkNaive(t, 60, []expandCase{{text, want}})
	}
	if got := naivelyExpanded(t, parse(t, macroOf(functions, inOrder(uses-1, ""))), 60); !strings.HasSuffix(got, " #961) #961))") {
		t.Errorf("the variables of 19 functions become %s", got)
	}
	// 988 numbers are given in front of the last ones.
	last := macroOf(functions, inOrder(uses-1, " (lambda ("+numbered(38, "y%d")+") y37)"))
	if got := naivelyExpanded(t, parse(t, last), 60); !strings.HasSuffix(got, " #999) #999))") {
		t.Errorf("the last variable that there can be becomes %s", got)
	}
	checkNaive(t, 60, []expandCase{
		{macroOf(functions, inOrder(uses-1, " (lambda ("+numbered(39, "y%d")+") y0)")), "spent"},
		// A macro does not need a number that a variable can have.
		{macroOf(macros, inOrder(40, "")), "(f" + strings.Repeat(" 1", 40) + ")"},
		{macroOf(macros, inOrder(40, " (let-syntax ((n (rules (l) ((_ l) 1) ((_ a) (g a))))) (list (n l) (n x)))")),
			"(f" + strings.Repeat(" 1", 40) + " (list 1 (g x)))"},
	})
}

func TestNaiveTemplatesThatCannotBeFilled(t *testing.T) {
	const rows = "((_ (a ...) (b ...)) (f (a b) ...)) ((_ a b) 7)"
	const double = "((_ a ...) (f a ... a ...)) ((_ ...) 7)"
	forms := func(n int) string { return strings.Repeat(" x", n) }
	deep := func(levels int) string {
		return macroOf("((_ a) (f (f (quote a))))", "(m "+impl.FormatForm(nested(levels))+")")
	}
	checkNaive(t, 9, []expandCase{
		{macroOf(rows, "(m (x y) (1 2))"), "(f (x 1) (y 2))"},
		{macroOf(rows, "(m (x y) (1))"), "spent"},
		{macroOf(rows, "(m x (1))"), "7"},
		{macroOf(double, "(m"+forms(199)+")"), "(f" + forms(398) + ")"},
		{macroOf(double, "(m"+forms(200)+")"), "spent"},
		{deep(37), "(f (f '" + impl.FormatForm(nested(37)) + "))"},
		{deep(38), "spent"},
	})
}

func TestRoomForNaiveCorePrograms(t *testing.T) {
	calls := func(nodes int) string { return "((_) (f" + strings.Repeat(" 1", nodes-2) + "))" }
	for _, c := range []struct {
		nodes int
		body  string
		want  string
	}{
		{299, "(g (m) (m))", "ok"}, {299, "(g (m) (m) 1)", "spent"}, {300, "(g (m) (m) (m) ())", "forms"}, {300, "(quote ((m) (m)))", "ok"},
	} {
		got := naivelyExpanded(t, parse(t, macroOf(calls(c.nodes), c.body)), 60)
		if got != c.want && (c.want != "ok" || slices.Contains(endNames, got)) {
			t.Errorf("with calls of %d nodes, %s is %s, want %s", c.nodes, c.body, got, c.want)
		}
	}
	// Each step has 30 levels, and so all of them more than a program can have.
	deep := macroOf("((_ a b ...) "+functions(30, "(m b ...)")+") ((_) 1)", "(m"+strings.Repeat(" 1", 59)+")")
	checkNaive(t, 60, []expandCase{
		{deep, "spent"},
		{strings.Replace(deep, "((_) 1)", "((_) ())", 1), "forms"},
	})
}

func TestNaiveExpansionsOfMuchWork(t *testing.T) {
	body := macroOf("((_ a ...) (f a ... (m a ...)))", "(m"+strings.Repeat(" x0", 150)+")")
	checkNaive(t, 60, []expandCase{{"(lambda (" + numbered(54, "x%d") + ") " + body + ")", "spent"}})
	// Each of the steps has 180 functions, each with a body that has other names.
	functions := macroOf("((_ a ...) (f (lambda (a) (g a)) ... (m a ...)))", "(m "+numbered(50, "x%d")+")")
	checkNaive(t, 60, []expandCase{{functions, "spent"}})
}

func TestNaiveExpansionsKeepNoState(t *testing.T) {
	f := parse(t, macroOf("((_ a) (let ((x a)) (f x a)))", "(lambda (x) (m x))"))
	for range 20 {
		if got := naivelyExpanded(t, f, 60); got != "(fun (#12) ((fun (#13) (f #13 #13)) #12))" {
			t.Fatalf("the naive expansion is %s", got)
		}
		naivelyExpanded(t, f, 0)
		naivelyExpanded(t, parse(t, "(lambda (x f if) (f x))"), 60)
		naivelyExpanded(t, selfHolding(), 60)
		expanded(t, f, 60)
	}
}

func TestNaiveExpandingSharesNoMemory(t *testing.T) {
	text := "(lambda (x y) " + macroOf("((_ a b) (quote (a (b c))))", "(f x (m z (w)) (m z (w)) (quote (v ())) (let ((x 1)) x))") + ")"
	f := roomyCopy(parse(t, text))
	before := memoryOfForm(f)
	first, _ := impl.NaiveForm(f, 9)
	again, end := impl.NaiveForm(f, 9)
	want := impl.FormatCore(again)
	if end != impl.ExpandOk || impl.FormatCore(first) != want || memoryOfForm(f) != before {
		t.Fatalf("NaiveForm = %s, %d, or changes its argument", want, end)
	}
	checkKidsApart(t, first)
	spoilCore(first)
	if memoryOfForm(f) != before || impl.FormatCore(again) != want {
		t.Error("NaiveForm shares memory with its argument or another result")
	}
}
