package tests

import (
	"fmt"
	"math"
	"slices"
	"strings"
	"testing"

	"loop.example/macroexpander/impl"
)

// endNames are the ends of expansions, as the tests tell them.
var endNames = []string{"ok", "forms", "many", "rule", "spent", "use", "bad"}

func isZeroState(x impl.Expansion) bool {
	return len(x.Binds) == 0 && len(x.Macros) == 0 && x.Scope == 0 && x.Id == 0 && x.Steps == 0
}

// expanded returns the text of the core program of f, or the end of the expansion.
func expanded(t *testing.T, f impl.Form, budget int) string {
	t.Helper()
	c, end := impl.ExpandForm(f, budget)
	x, endOfState := impl.ExpandState(f, budget)
	if end < 0 || end >= len(endNames) || end != endOfState {
		t.Fatalf("ExpandForm and ExpandState of %s end with %d and %d", impl.FormatForm(f), end, endOfState)
	}
	if end != impl.ExpandOk {
		if !isZeroCore(c) || !isZeroState(x) {
			t.Errorf("with the end %s, the results are %v and %v", endNames[end], c, x)
		}
		return endNames[end]
	}
	if !impl.CoreValid(c) || !impl.ExpansionValid(x) || x.Steps > budget {
		t.Errorf("a result of %s is not valid: %v, %v", impl.FormatForm(f), c, x)
	}
	return impl.FormatCore(c)
}

// expandCase tells what a form with this text becomes.
type expandCase struct{ text, want string }

func checkExpands(t *testing.T, budget int, cases []expandCase) {
	t.Helper()
	for _, c := range cases {
		if got := expanded(t, parse(t, c.text), budget); got != c.want {
			t.Errorf("%s becomes %s, want %s", c.text, got, c.want)
		}
	}
}

func TestExpandCoreForms(t *testing.T) {
	checkExpands(t, 0, []expandCase{
		{"0", "0"},
		{"999", "999"},
		{"x", "x"},
		{"x{3,99}", "x"},
		{"...", "..."},
		{"_", "_"},
		{"rules", "rules"},
		{"(f)", "(f)"},
		{"(1 2)", "(1 2)"},
		{"((f) 1)", "((f) 1)"},
		{"(((f)))", "(((f)))"},
		{"(f x (g 1) 2)", "(f x (g 1) 2)"},
		{"(rules () ())", "forms"},
		{"(if 1 2 3)", "(if 1 2 3)"},
		{"(if (if a b c) (f) (quote d))", "(if (if a b c) (f) 'd)"},
		{"(quote x)", "'x"},
		{"(quote 5)", "'5"},
		{"(quote ())", "'()"},
		{"(quote x{1,2})", "'x"},
		{"(quote (if lambda{3} (quote x{1}) () 1))", "'(if lambda (quote x) () 1)"},
		{"(lambda () 1)", "(fun () 1)"},
		{"(lambda (x) x)", "(fun (#11) #11)"},
		{"(lambda (x y z) (z x y w))", "(fun (#11 #12 #13) (#13 #11 #12 w))"},
		{"(lambda (... _) (_ ...))", "(fun (#11 #12) (#12 #11))"},
		{"(lambda (x) (quote (x)))", "(fun (#11) '(x))"},
		{"(list (lambda (x) x) (lambda (x y) x) x)", "(list (fun (#11) #11) (fun (#12 #13) #12) x)"},
		{"(lambda (x) (lambda (y) (x y)))", "(fun (#11) (fun (#12) (#11 #12)))"},
		{"(lambda (x) (lambda (x) x))", "(fun (#11) (fun (#12) #12))"},
		{"(lambda (x) (f (lambda (x) x) x))", "(fun (#11) (f (fun (#12) #12) #11))"},
		{"((lambda (x) x) 5)", "((fun (#11) #11) 5)"},
		{"(let () 1)", "((fun () 1))"},
		{"(let ((x 1)) x)", "((fun (#11) #11) 1)"},
		{"(let ((x 1) (y x)) (y x))", "((fun (#11 #12) (#12 #11)) 1 x)"},
		{"(let ((x 1)) (let ((x x)) x))", "((fun (#11) ((fun (#12) #12) #11)) 1)"},
		// The values come first, and so do their numbers.
		{"(let ((x (lambda (y) (x y)))) x)", "((fun (#12) #12) (fun (#11) (x #11)))"},
		{"(let ((x (lambda (y) y)) (z (let ((y 2)) y))) (x z))",
			"((fun (#13 #14) (#13 #14)) (fun (#11) #11) ((fun (#12) #12) 2))"},
		{"(let-syntax () 1)", "1"},
		{"(let-syntax () (lambda (x) x))", "(fun (#11) #11)"},
		{"(lambda (x) (let-syntax () x))", "(fun (#11) #11)"},
	})
}

func TestExpandNamesWithScopes(t *testing.T) {
	checkExpands(t, 1, []expandCase{
		{"(if{1,2} 1 2 3)", "(if 1 2 3)"},
		{"(lambda{99} (x{5}) x{5})", "(fun (#11) #11)"},
		{"(lambda (x) x{5})", "(fun (#11) #11)"},
		{"(lambda (x{5}) x)", "(fun (#11) x)"},
		{"(lambda (x x{5}) (x x{5} x{6} x{5,6}))", "(fun (#11 #12) (#11 #12 #11 #12))"},
		{"(lambda (x{5} x{6}) (x x{5} x{6} x{7}))", "(fun (#11 #12) (x #11 #12 x))"},
		{"(let ((x{5} x)) (x x{5}))", "((fun (#11) (x #11)) x)"},
		// The new scope is one that names can have already.
		{"(lambda (x{1}) x)", "(fun (#11) #11)"},
		{"(lambda (x) x{1})", "(fun (#11) #11)"},
		{"(list (lambda (x{2}) 1) (lambda (x) x))", "(list (fun (#11) 1) (fun (#12) #12))"},
		{"(list (lambda (x{2}) 1) (lambda (x) (quote x{1})))", "(list (fun (#11) 1) (fun (#12) 'x))"},
		{"(list (lambda (x{2}) 1) (lambda (x) x{1}))", "spent"},
		{"(let-syntax ((m{5} (rules () ((_) 1)))) (m{5}))", "1"},
		{"(let-syntax ((m{5} (rules () ((_) 1)))) (m))", "(m)"},
		// Names of core forms have bindings without scopes, which names with scopes hide.
		{"(lambda (if{5}) (if 1 2 3))", "(fun (#11) (if 1 2 3))"},
		{"(lambda (if{5}) (if{5} 1 2 3))", "(fun (#11) (#11 1 2 3))"},
	})
}

func TestCoreFormsBoundAgain(t *testing.T) {
	checkExpands(t, 3, []expandCase{
		{"(let ((if list)) (if 1 2))", "((fun (#11) (#11 1 2)) list)"},
		{"(let ((if list)) if)", "((fun (#11) #11) list)"},
		{"(let ((if (if 1 2 3))) (if if))", "((fun (#11) (#11 #11)) (if 1 2 3))"},
		{"(lambda (quote) (quote x))", "(fun (#11) (#11 x))"},
		{"(lambda (lambda) (lambda (x) x))", "(fun (#11) (#11 (x) x))"},
		{"(lambda (let) (let (x) 1 2))", "(fun (#11) (#11 (x) 1 2))"},
		{"(lambda (let-syntax) (let-syntax 1))", "(fun (#11) (#11 1))"},
		{"(lambda (let) (lambda (x) (let x)))", "(fun (#11) (fun (#12) (#11 #12)))"},
		{"(list (lambda (if) (if 1)) (if 1 2 3))", "(list (fun (#11) (#11 1)) (if 1 2 3))"},
		{"(let ((lambda 1) (let 2)) (let-syntax () (f let lambda)))", "((fun (#11 #12) (f #12 #11)) 1 2)"},
		// A name of a macro can be that of a core form, and the other way round.
		{"(let-syntax ((if (rules () ((_ a b) (list b a))))) (if 1 2))", "(list 2 1)"},
		{"(let-syntax ((if (rules () ((_ a) (if 1 a 0))))) (if 1))", "rule"},
		{"(let-syntax ((let (rules () ((_ x e b) ((lambda (x) b) e))))) (let y 1 (f y)))", "((fun (#12) (f #12)) 1)"},
		{"(let-syntax ((m (rules () ((_ if) (if 1 2 3))))) (m list))", "(list 1 2 3)"},
		// The template means the core form, whatever the use has bound.
		{"(let-syntax ((m (rules () ((_ a) (if a 1 2))))) (let ((if list)) (m if)))", "((fun (#12) (if #12 1 2)) list)"},
		{"(let-syntax ((m (rules () ((_ a) (let ((x a)) (lambda () x)))))) (lambda (let lambda x) (m (let lambda x))))",
			"(fun (#12 #13 #14) ((fun (#15) (fun () #15)) (#12 #13 #14)))"},
		{"(let ((if list)) (let-syntax ((m (rules () ((_ a) (if a 1 2))))) (m 5)))", "((fun (#11) (#11 5 1 2)) list)"},
	})
}

func TestExpandMacros(t *testing.T) {
	checkExpands(t, 20, []expandCase{
		{"(let-syntax ((m (rules () ((_) 5)))) (m))", "5"},
		{"(let-syntax ((m (rules () ((_) f)))) ((m) (m) 1))", "(f f 1)"},
		{"(let-syntax ((m (rules () ((_ a ...) (f (a 1) ...))))) (m x y))", "(f (x 1) (y 1))"},
		{"(let-syntax ((m (rules () ((_ a) (quote (a b)))))) (m (x{3} b)))", "'((x b) b)"},
		{"(lambda (x) (let-syntax ((m (rules () ((_) x)))) (m)))", "(fun (#11) #11)"},
		// The one that is innermost counts.
		{"(let-syntax ((m (rules () ((_) 5)))) (lambda (m) (m)))", "(fun (#12) (#12))"},
		{"(lambda (m) (let-syntax ((m (rules () ((_) 5)))) (m)))", "(fun (#11) 5)"},
		{"(let-syntax ((m (rules () ((_) 1)))) (f (let-syntax ((m (rules () ((_) 2)))) (m)) (m)))", "(f 2 1)"},
		{"(f (let-syntax ((m (rules () ((_) 1)))) (m)) (m))", "(f 1 (m))"},
		{"(let-syntax ((m (rules () ((_) 1)))) (let ((m (m))) m))", "((fun (#12) #12) 1)"},
		// All macros of a let-syntax know each other, and themselves.
		{"(let-syntax ((a (rules () ((_) (b)))) (b (rules () ((_) 7)))) (a))", "7"},
		{"(let-syntax ((a (rules () ((_) 7))) (b (rules () ((_) (a))))) (b))", "7"},
		{"(let-syntax ((m (rules () ((_) 1)))) (let-syntax ((m (rules () ((_) (m 2)) ((_ a) (f a))))) (m)))", "(f 2)"},
		{"(let-syntax ((and (rules () ((_) 1) ((_ a) a) ((_ a b ...) (if a (and b ...) 0))))) (and x (and) (and y z)))",
			"(if x (if 1 (if y z 0) 0) 0)"},
		{"(let-syntax ((rev (rules () ((_ () b) b) ((_ (a r ...) (b ...)) (rev (r ...) (a b ...)))))) (rev (1 2 f) ()))", "(f 2 1)"},
		{"(let-syntax ((fun* (rules () ((_ () b) b) ((_ (x y ...) b) (lambda (x) (fun* (y ...) b)))))) (fun* (p q) (p q)))",
			"(fun (#12) (fun (#13) (#12 #13)))"},
		// Macros that make macros.
		{"(let-syntax ((def (rules () ((_ n v b) (let-syntax ((n (rules () ((_) v)))) b))))) (def k 5 (f (k))))", "(f 5)"},
		{"(let-syntax ((twice (rules () ((_ e) (let-syntax ((m (rules () ((_) e)))) (f (m) (m))))))) (lambda (m) (twice (m))))",
			"(fun (#12) (f (#12) (#12)))"},
		{"(let-syntax ((mk (rules () ((_ n) (let-syntax ((n (rules () ((_ a) (let ((x 1)) (f a x)))))) (let ((x 2)) (n x))))))) (mk m))",
			"((fun (#13) ((fun (#14) (f #13 #14)) 1)) 2)"},
		// A use matches a rule without regard to what its first form is.
		{"(let-syntax ((m (rules () ((a b) (quote (a b)))))) (m m))", "'(m m)"},
		{"(let-syntax ((m (rules () ((5) 1) ((_) 2)))) (m))", "2"},
	})
}

func TestLiteralsOfMacros(t *testing.T) {
	const cond = "(cond (rules (else) ((_ else a) a) ((_ b a) (if b a 0))))"
	checkExpands(t, 20, []expandCase{
		{"(let-syntax (" + cond + ") (cond else 4))", "4"},
		{"(let-syntax (" + cond + ") (cond x 4))", "(if x 4 0)"},
		// A literal that is bound at the use is another name.
		{"(let-syntax (" + cond + ") (let ((else 3)) (cond else 4)))", "((fun (#12) (if #12 4 0)) 3)"},
		{"(let-syntax (" + cond + ") (lambda (x) (cond else x)))", "(fun (#12) #12)"},
		{"(let-syntax (" + cond + ") (f (lambda (else) 1) (cond else 4)))", "(f (fun (#12) 1) 4)"},
		// One that is bound around the macro and its use is the same.
		{"(lambda (else) (let-syntax (" + cond + ") (cond else 4)))", "(fun (#11) 4)"},
		{"(lambda (else) (let-syntax (" + cond + ") (lambda (else) (cond else 4))))", "(fun (#11) (fun (#13) (if #13 4 0)))"},
		{"(lambda (x else) (let-syntax (" + cond + ") (cond x 4)))", "(fun (#11 #12) (if #11 4 0))"},
		// A template can have the literal of another macro, or of its own one.
		{"(let-syntax (" + cond + " (m (rules () ((_ a) (cond else a))))) (lambda (else) (m else)))", "(fun (#13) #13)"},
		{"(let-syntax (" + cond + " (m (rules () ((_ a) (let ((else 0)) (cond a 1)))))) (m else))", "((fun (#13) 1) 0)"},
		{"(let-syntax (" + cond + " (m (rules () ((_ a) (let ((else 0)) (cond else a)))))) (m 1))",
			"((fun (#13) (if #13 1 0)) 0)"},
		{"(let-syntax ((m (rules (if) ((_ if) 1) ((_ a) 2)))) (f (m if) (m list) (lambda (if) (m if))))", "(f 1 2 (fun (#12) 2))"},
		{"(let-syntax ((m (rules (m) ((m) 1) ((m m) 2) ((_ a) 3)))) (f (m) (m m) (m 5)))", "(f 1 2 3)"},
		{"(let-syntax ((m (rules (a) ((_ a) 1) ((_ b) 2)))) (let-syntax ((a (rules ()))) (m a)))", "2"},
	})
}

// macroOf returns the text of a program in which m is the macro with these rules.
func macroOf(rules string, body string) string {
	return "(let-syntax ((m (rules () " + rules + "))) " + body + ")"
}

func TestShapesOfCoreForms(t *testing.T) {
	shapes := []string{
		"()", "(())", "(f ())", "(() f)", "(quote)", "(quote 1 2)", "(if)", "(if 1)", "(if 1 2)", "(if 1 2 3 4)",
		"(lambda)", "(lambda (x))", "(lambda (x) 1 2)", "(lambda x 1)", "(lambda 5 1)", "(lambda (5) 1)", "(lambda ((x)) 1)",
		"(lambda (x ()) 1)", "(lambda (x 5 y) 1)", "(lambda (x x) 1)", "(lambda (x y x) 1)", "(lambda (x{7} y x{7}) 1)",
		"(lambda (x x{1}) 1)", "(lambda (x{1} x) 1)",
		"(let)", "(let ((x 1)))", "(let ((x 1)) 1 2)", "(let x 1)", "(let 5 1)", "(let (x) 1)", "(let (5) 1)", "(let (()) 1)",
		"(let ((x)) 1)", "(let ((x 1 2)) 1)", "(let ((5 1)) 1)", "(let (((x) 1)) 1)", "(let ((x 1) (() 1)) 1)",
		"(let ((x 1) y) 1)", "(let ((x 1) (y)) 1)", "(let ((x 1) (x 1)) 1)", "(let ((x 1) (y 2) (x 3)) 1)", "(let ((x 1) (x{1} 1)) 1)",
		"(let-syntax)", "(let-syntax ((m (rules ()))))", "(let-syntax () 1 2)", "(let-syntax m 1)", "(let-syntax 5 1)",
		"(let-syntax (m) 1)", "(let-syntax (5) 1)", "(let-syntax (()) 1)", "(let-syntax ((m)) 1)", "(let-syntax ((m (rules ()) 1)) 1)",
		"(let-syntax ((5 (rules ()))) 1)", "(let-syntax (((m) (rules ()))) 1)", "(let-syntax ((m (rules ())) (n)) 1)",
		"(let-syntax ((m (rules ())) (m (rules ()))) 1)", "(let-syntax ((m (rules ())) (m{1} (rules ()))) 1)",
		"(let-syntax ((m 1)) 1)", "(let-syntax ((m rules)) 1)", "(let-syntax ((m (rules))) 1)", "(let-syntax ((m (rule ()))) 1)",
		"(let-syntax ((m (rules x))) 1)", "(let-syntax ((m (rules (5)))) 1)", "(let-syntax ((m (rules () (x 1)))) 1)",
		"(let-syntax ((m (rules () ((_ a a) 1)))) 1)", "(let-syntax ((m (rules () ((_ a ...) a)))) 1)",
		"(let-syntax ((m (rules ())) (n (rules))) 1)",
	}
	for _, text := range shapes {
		for _, program := range []string{text, "(f " + text + ")", "(lambda (y) " + text + ")", macroOf("((_ a) a)", "(m "+text+")")} {
			checkExpands(t, 20, []expandCase{{program, "forms"}})
		}
		// Data is not expanded.
		if got := expanded(t, parse(t, "(quote "+text+")"), 0); !strings.HasPrefix(got, "'") {
			t.Errorf("%s ends with %s as data", text, got)
		}
	}
	// A name can be bound twice with other scopes, or by several forms.
	checkExpands(t, 0, []expandCase{
		{"(lambda (x x{2}) x{2})", "(fun (#11 #12) #12)"},
		{"(let ((x 1) (x{2} 2)) x)", "((fun (#11 #12) #11) 1 2)"},
		{"(list (lambda (x{1,2}) 1) (lambda (x{1}) 2))", "forms"},
		{"(list (lambda (x{1,2}) 1) (lambda (x{2}) 2))", "(list (fun (#11) 1) (fun (#12) 2))"},
		{"(list (lambda (x) 1) (let-syntax ((x{1} (rules ()))) 2))", "(list (fun (#11) 1) 2)"},
		{"(list (lambda (x{2}) 1) (let-syntax ((x{1} (rules ()))) 2))", "forms"},
	})
}

func TestEndsOfExpansions(t *testing.T) {
	const twice = "(list (lambda (x) 1) (lambda (x) 2) "
	checkExpands(t, 20, []expandCase{
		{"if", "use"},
		{"lambda{4}", "use"},
		{"(f let)", "use"},
		{"(f quote 1)", "use"},
		{"(let-syntax ((m (rules ()))) m)", "use"},
		{"(let-syntax ((m (rules ()))) (f m))", "use"},
		{"(let-syntax ((m (rules ()))) (let ((x m)) 1))", "use"},
		{macroOf("((_) if)", "((m) 1 2 3)"), "use"},
		{"(let-syntax ((m (rules ()))) (m))", "rule"},
		{macroOf("((_ a) 1) ((_ 5 6) 2)", "(m 5 7)"), "rule"},
		{macroOf("((_ a) (m))", "(m 5)"), "rule"},
		{twice + "x{1,2})", "many"},
		{twice + "(x{1,2}))", "many"},
		{twice + "(x{1,2} (if)))", "many"},
		{twice + "x{1,2,50})", "many"},
		{"(list (lambda (x{7}) 1) (lambda (x) 2) x{1,2})", "spent"},
		{"(list (lambda (if{7}) 1) (lambda (if) 2) (if{1,2,7} 1 2 3))", "many"},
		// A program that is not valid in the end.
		{"(list (lambda (x) 1) x{1})", "spent"},
		{"(list (lambda (x) 1) x{2})", "(list (fun (#11) 1) x)"},
		{"(list x{1} (lambda (x) 1))", "(list x (fun (#11) 1))"},
		{"(list (lambda (x) 1) (lambda (y) x{1}))", "spent"},
		{"(list (lambda (x) 1) x{1} ())", "forms"},
		{macroOf("((_) (m))", "(m)"), "spent"},
	})
}

func TestPartsAreExpandedInOrder(t *testing.T) {
	// Behind the two functions, each of these ends in its own way, which needs no room but for steps.
	ways := map[string]string{
		"()": "forms", "x{1,90,91}": "many", "(no)": "rule", "(no{1})": "rule", "(loop)": "spent", "if": "use",
	}
	around := func(body string) string {
		return "(let-syntax ((no (rules ())) (loop (rules () ((_) (loop))))) (list (lambda (x{90}) 1) (lambda (x{91}) 1) " + body + "))"
	}
	const many = "x{1,2,3,90,91}"
	for first, want := range ways {
		for second := range ways {
			for _, form := range []string{
				"((f A) B)", "(f A B)", "(1 2 A (g B))", "(if A B 1)", "(if 1 A B)", "(if A 1 B)", "(lambda (y) (f A B))", "((lambda (y) A) B)",
				"(let ((y A) (z B)) 1)", "(let ((y A)) B)", "(let ((y (f A)) (z 1)) B)", "(let-syntax () (f A B))",
				// Values come in front of names that are bound twice, and of what is no name.
				"(let ((y A) (y B)) 1)", "(let ((y 1) (y A)) B)", "(let ((5 A)) B)", "(let ((5 A) (() B)) B)",
				"(let ((y A) (5 B)) B)", "(let ((5 1) (y A)) B)", "(let (((y) A) (y B) (y B)) B)", "(let ((y (let ((5 A)) B)) (5 B)) B)",
			} {
				text := strings.NewReplacer("A", first, "B", second).Replace(form)
				text = strings.ReplaceAll(text, "x{1,90,91}", many)
				checkExpands(t, 5, []expandCase{{around(text), want}})
			}
		}
		// The shape of a form comes in front of its parts, and what it binds in front of its body.
		for _, form := range []string{
			"(if A 1)", "(lambda (y 5) A)", "(lambda (y y) A)", "(let ((5 1)) A)", "(let ((y 1) (() 2)) A)",
			"(let ((y A)) A A)", "(let ((5 A)) A A)", "(let ((y A) z) A)", "(let ((5 A) z) A)", "(let ((5 A) (z)) A)", "(let ((y A) 5) A)",
			"(let ((5 A) (z 1 2)) A)", "(let ((5 A)))", "(let ((y 1) (y 1)) A)", "(let-syntax ((m 1)) A)", "(let-syntax ((5 (rules ()))) A)",
			"(let-syntax ((m (rules ())) (m (rules ()))) A)",
		} {
			checkExpands(t, 5, []expandCase{{around(strings.ReplaceAll(form, "A", first)), "forms"}})
		}
	}
}

func TestExpandRefuses(t *testing.T) {
	f := parse(t, "(f x)")
	for budget, want := range map[int]string{
		0: "(f x)", 60: "(f x)", 61: "bad", -1: "bad", math.MaxInt: "bad", math.MinInt: "bad",
	} {
		if got := expanded(t, f, budget); got != want {
			t.Errorf("with the budget %d, (f x) becomes %s", budget, got)
		}
		if got := expanded(t, parse(t, "()"), budget); got != "forms" && want != "bad" || got != "bad" && want == "bad" {
			t.Errorf("with the budget %d, () ends with %s", budget, got)
		}
	}
	forms := invalidForms()
	forms["a form within itself"] = selfHolding()
	for what, f := range forms {
		for _, g := range []impl.Form{f, listForm(f), listForm(nameForm("quote"), f)} {
			for _, budget := range []int{0, 60, 61, -1} {
				if got := expanded(t, g, budget); got != "bad" {
					t.Errorf("%s ends with %s", what, got)
				}
			}
		}
	}
}

func TestBudgetOfSteps(t *testing.T) {
	// The macro has as many steps as there are forms in its use, and one more.
	count := func(forms int) string {
		return macroOf("((_) 7) ((_ a b ...) (m b ...))", "(m"+strings.Repeat(" 1", forms)+")")
	}
	for forms := range 60 {
		steps := forms + 1
		checkExpands(t, steps, []expandCase{{count(forms), "7"}})
		checkExpands(t, steps-1, []expandCase{{count(forms), "spent"}})
	}
	checkExpands(t, 60, []expandCase{{count(60), "spent"}})
	// Steps are counted in all of the program, also without a rule.
	checkExpands(t, 3, []expandCase{
		{macroOf("((_) 1)", "(f (m) (let ((x (m))) (m)))"), "(f 1 ((fun (#12) 1) 1))"},
		{macroOf("((_) 1)", "(f (m) (let ((x (m))) (m)) (m))"), "spent"},
		{macroOf("((_) 1)", "(f (m) (m) (m 1))"), "rule"},
		{macroOf("((_) 1)", "(f (m) (m) (m) (m 1))"), "spent"},
		{macroOf("((_) 1)", "(quote ((m) (m) (m) (m) (m)))"), "'((m) (m) (m) (m) (m))"},
	})
	checkExpands(t, 0, []expandCase{
		{"(let-syntax ((m (rules ()))) (m))", "spent"},
		{"(let-syntax ((m (rules ()))) m)", "use"},
		{macroOf("((_) 1)", "5"), "5"},
	})
}

// functions returns the text of so many functions without variables, each around the next one, and of the body.
func functions(n int, body string) string {
	return strings.Repeat("(lambda () ", n) + body + strings.Repeat(")", n)
}

func TestScopesThatThereAre(t *testing.T) {
	// The functions are in rows of 20, because a name can't have the scopes of more than 24.
	rows := func(functionsInAll int, first string) string {
		text := "(" + first
		for left := functionsInAll; left > 0; left -= 20 {
			text += " " + functions(min(left, 20), "1")
		}
		return text + ")"
	}
	for _, c := range []struct {
		functions int
		first     string
		want      string
	}{
		{99, "f", "ok"}, {100, "f", "spent"}, {100, "()", "forms"},
		{98, "(lambda (x) x)", "ok"}, {99, "(lambda (x) x)", "spent"},
		{98, "(let ((x 1)) x)", "ok"}, {99, "(let ((x 1)) x)", "spent"},
		{98, "(let-syntax () 1)", "ok"}, {99, "(let-syntax () 1)", "spent"},
		{97, macroOf("((_) 1)", "(m)"), "ok"}, {98, macroOf("((_) 1)", "(m)"), "spent"},
		{98, macroOf("((_) 1)", "5"), "ok"}, {99, macroOf("((_) 1)", "5"), "spent"},
	} {
		got := expanded(t, parse(t, rows(c.functions, c.first)), 60)
		if got != c.want && (c.want != "ok" || slices.Contains(endNames, got)) {
			t.Errorf("with %d functions and %s, the expansion is %s, want %s", c.functions, c.first, got, c.want)
		}
	}
	// When there is no scope left, the shape still counts, and a use has neither a step nor a rule.
	full := "(let-syntax ((m (rules ()))) (list " + rows(98, "f") + " %s))"
	for body, want := range map[string]string{
		"(lambda (x))": "forms", "(lambda (5) 1)": "forms", "(lambda (x) 1)": "spent", "(let ((x ())) 1)": "forms", "(let ((x if)) 1)": "use",
		"(let ((5 1)) 1)": "forms", "(let ((5 if)) 1)": "use", "(let ((x 1)) 1)": "spent",
		"(let-syntax ((n (rules ()))) 1)": "spent", "(let-syntax (m) 1)": "forms", "(m)": "spent", "m": "use",
	} {
		checkExpands(t, 60, []expandCase{{fmt.Sprintf(full, body), want}})
	}
}

// manyScopes returns the text of a name with so many scopes, the greatest one being 99.
func manyScopes(name string, n int) string {
	return impl.FormatForm(nameForm(name, scopesUpTo(99)[99-n:]...))
}

func TestScopesOfNamesInExpansions(t *testing.T) {
	x22, x23, x24 := manyScopes("x", 22), manyScopes("x", 23), manyScopes("x", 24)
	checkExpands(t, 9, []expandCase{
		{x24, "x"},
		{"(" + manyScopes("if", 24) + " 1 2 3)", "(if 1 2 3)"},
		{functions(24, "x") + "", strings.Repeat("(fun () ", 24) + "x" + strings.Repeat(")", 24)},
		{functions(25, "x"), "spent"},
		{functions(25, "1"), strings.Repeat("(fun () ", 25) + "1" + strings.Repeat(")", 25)},
		{functions(26, "1"), "spent"},
		{"(lambda () " + x23 + ")", "(fun () x)"},
		{"(lambda () " + x24 + ")", "spent"},
		{"(lambda () (quote " + x24 + "))", "spent"},
		{"(quote " + x24 + ")", "'x"},
		{"(lambda (" + x23 + ") 1)", "(fun (#11) 1)"},
		{"(lambda (" + x24 + ") 1)", "spent"},
		// The values of let, and the names of core forms, do not have the new scope.
		{"(let ((y " + x24 + ")) 1)", "((fun (#11) 1) x)"},
		{"(let ((y 1)) " + x24 + ")", "spent"},
		{"(let ((" + x24 + " 1)) 1)", "spent"},
		{"(" + manyScopes("let", 24) + " ((y 1)) y)", "((fun (#11) #11) 1)"},
		{"(" + manyScopes("lambda", 24) + " (y) y)", "(fun (#11) #11)"},
		{"(" + manyScopes("let-syntax", 24) + " () 1)", "1"},
		{"(let-syntax () " + x24 + ")", "spent"},
		{"(let-syntax ((" + x24 + " (rules ()))) 1)", "spent"},
		{macroOf("((_) "+x23+")", "1"), "1"},
		{macroOf("((_) "+x24+")", "1"), "spent"},
		// The scope of a step is flipped in the use, and again in what it becomes.
		{macroOf("((_ a) 1)", "(m "+x22+")"), "1"},
		{macroOf("((_ a) 1)", "(m "+x23+")"), "spent"},
		{macroOf("((_ 5) 1)", "(m "+x23+")"), "spent"},
		{macroOf("((_) "+x22+")", "(m)"), "x"},
		{macroOf("((_) "+x23+")", "(m)"), "spent"},
		{macroOf("((_) "+x23+")", "(m 1)"), "rule"},
	})
	// A flip takes the scope off a name that has it.
	full := impl.FormatForm(nameForm("x", append([]int{1, 2}, scopesUpTo(99)[77:]...)...))
	checkExpands(t, 9, []expandCase{
		{macroOf("((_ a) a)", "(m "+full+")"), "x"},
		{macroOf("((_ a) (lambda () a))", "(m "+full+")"), "spent"},
		{macroOf("((_) "+full+")", "(m)"), "x"},
		{macroOf("((_) (lambda () "+full+"))", "(m)"), "(fun () x)"},
	})
}

// TestFormsAreToldInFrontOfRoom binds names that cannot be bound where there is no room for them either.
func TestFormsAreToldInFrontOfRoom(t *testing.T) {
	x24 := manyScopes("x", 24)
	for _, c := range []struct{ binder, want string }{
		{"(lambda (y) B)", "spent"},
		{"(lambda (y y) B)", "forms"},
		{"(lambda (y z y) B)", "forms"},
		{"(lambda (y y{1}) B)", "forms"},
		{"(lambda (y y{2}) B)", "spent"},
		{"(lambda (y{2,5} z y{2,5}) B)", "forms"},
		{"(let ((y 1) (y 2)) B)", "forms"},
		{"(let ((y 1) (z 2)) B)", "spent"},
		{"(let ((y if) (y 2)) B)", "use"},
		{"(let-syntax ((m 1)) B)", "forms"},
		{"(let-syntax ((m (rules))) B)", "forms"},
		{"(let-syntax ((m (rules ())) (n (rules () (1 1)))) B)", "forms"},
		{"(let-syntax ((m (rules ())) (n (rules ()))) B)", "spent"},
		{"(let-syntax ((m (rules ())) (m (rules ()))) B)", "forms"},
		{"(let-syntax ((m (rules ())) (m{1} (rules ()))) B)", "forms"},
		// Rules are read with the new scope in all names, where names can be the same that are not so without it.
		{"(let-syntax ((m (rules (y y{2})))) B)", "spent"},
		{"(let-syntax ((m (rules (y y{1})))) B)", "forms"},
		{"(let-syntax ((m (rules () ((_ y{1} ...) (f y ...))))) B)", "spent"},
		{"(let-syntax ((m (rules () ((_ y{2} ...) (f y ...))))) B)", "forms"},
	} {
		for _, body := range []string{x24, "(quote (" + x24 + "))", "(f (" + x24 + "))"} {
			checkExpands(t, 9, []expandCase{{strings.ReplaceAll(c.binder, "B", body), c.want}})
		}
	}
	checkExpands(t, 9, []expandCase{
		{"(let-syntax ((m (rules () ((_ y{1} ...) (f y ...))))) (m 1 2))", "(f 1 2)"},
		{"(let-syntax ((m (rules () ((_ y{1} ...) (f y ... " + x24 + "))))) 1)", "spent"},
		{"(let-syntax ((m (rules () ((_ y{2} ...) (f y ... " + x24 + "))))) 1)", "forms"},
		{"(let-syntax ((m (rules (y y{1} " + x24 + ")))) 1)", "forms"},
		{"(let-syntax ((m (rules (y y{2} " + x24 + ")))) 1)", "spent"},
		{"(let-syntax ((m " + x24 + ")) 1)", "forms"},
		{"(let-syntax ((m (" + x24 + " ()))) 1)", "forms"},
		{"(let-syntax ((m (rules () (" + x24 + " 1)))) 1)", "forms"},
		{"(let-syntax ((m (rules () ((_) " + x24 + "))) (n (rules 1))) 1)", "forms"},
		{"(let-syntax ((m (rules () ((_) " + x24 + "))) (m (rules ()))) 1)", "forms"},
		{"(let-syntax ((" + x24 + " (rules))) 1)", "forms"},
		{"(lambda (" + x24 + " y y) 1)", "forms"},
		{"(lambda (" + x24 + " " + x24 + ") 1)", "forms"},
		{"(lambda (y " + x24 + " z) 1)", "spent"},
		{"(let ((" + x24 + " 1) (y 1) (y 2)) 1)", "forms"},
		{"(let ((" + x24 + " 1) (" + x24 + " 2)) 1)", "forms"},
		// A name that another form has bound with the same scopes.
		{"(list (lambda (y{1,2}) 1) (lambda (y{1}) " + x24 + "))", "forms"},
		{"(list (lambda (y{1,3}) 1) (lambda (y{1}) " + x24 + "))", "spent"},
		{"(list (lambda (y{1,2}) 1) (let-syntax ((y{1} (rules ()))) " + x24 + "))", "forms"},
	})
	// There is no scope for a name in the body, nor for the region.
	full := "(list " + strings.Repeat(functions(20, "1")+" ", 4) + functions(19, "1") + " %s)"
	for binder, want := range map[string]string{
		"(lambda (y) 1)": "spent", "(lambda (y y) 1)": "forms", "(lambda (y y{99}) 1)": "spent", "(let ((y 1) (y 2)) 1)": "forms",
		"(let-syntax ((m 1)) 1)": "forms", "(let-syntax ((m (rules ()))) 1)": "spent", "(let-syntax ((m (rules ())) (m (rules ()))) 1)": "forms",
		"(let-syntax ((m (rules (y y{99})))) 1)": "spent", "(let-syntax ((m (rules (y y)))) 1)": "forms",
	} {
		checkExpands(t, 9, []expandCase{{fmt.Sprintf(full, binder), want}})
	}
}

func TestBindingsThatThereAre(t *testing.T) {
	names := func(n int, format string) string {
		var texts []string
		for i := range n {
			texts = append(texts, fmt.Sprintf(format, i))
		}
		return strings.Join(texts, " ")
	}
	last := func(n int) string { return fmt.Sprint("#", n+10) }
	ids := func(from int, to int) string {
		var texts []string
		for i := from; i <= to; i++ {
			texts = append(texts, last(i))
		}
		return strings.Join(texts, " ")
	}
	checkExpands(t, 60, []expandCase{
		{"(lambda (" + names(55, "x%d") + ") x54)", "(fun (" + ids(1, 55) + ") " + last(55) + ")"},
		{"(lambda (" + names(56, "x%d") + ") x54)", "spent"},
		{"(lambda (" + names(56, "x%d") + " x0) 1)", "forms"},
		{"(lambda (" + names(55, "x%d") + " x0) 1)", "forms"},
		{"(lambda (x0 " + names(56, "x%d") + ") 1)", "forms"},
		{"(let (" + names(55, "(x%d 1)") + ") x54)",
			"((fun (" + ids(1, 55) + ") " + last(55) + ")" + strings.Repeat(" 1", 55) + ")"},
		{"(let (" + names(56, "(x%d 1)") + ") x54)", "spent"},
		{"(let-syntax (" + names(55, "(x%d (rules ()))") + ") 1)", "1"},
		{"(let-syntax (" + names(56, "(x%d (rules ()))") + ") 1)", "spent"},
		{"(let-syntax (" + names(55, "(x%d (rules ()))") + " (y (rules))) 1)", "forms"},
		{"(let-syntax (" + names(56, "(x%d (rules ()))") + " (y (rules))) 1)", "forms"},
		{"(let-syntax (" + names(56, "(x%d (rules ()))") + " (x0 (rules ()))) 1)", "forms"},
		{"(let (" + names(56, "(x%d 1)") + " (x0 1)) 1)", "forms"},
		{"(let (" + names(56, "(x%d 1)") + " (x0 if)) 1)", "use"},
		{"(let-syntax (" + names(56, "(x%d (rules ()))") + " (5 (rules ()))) 1)", "forms"},
		{"(let-syntax (" + names(54, "(x%d (rules ()))") + ") (lambda (y) y))", "(fun (#65) #65)"},
		{"(let-syntax (" + names(54, "(x%d (rules ()))") + ") (lambda (y z) y))", "spent"},
		{"(f (lambda (" + names(54, "x%d") + ") 1) (lambda (x) x))", "(f (fun (" + ids(1, 54) + ") 1) (fun (#65) #65))"},
		{"(f (lambda (" + names(55, "x%d") + ") 1) (lambda () 1))", "(f (fun (" + ids(1, 55) + ") 1) (fun () 1))"},
		{"(f (lambda (" + names(55, "x%d") + ") 1) (lambda (x) ()))", "spent"},
		{macroOf("((_ a ...) (f (lambda (a) a) ...))", "(m "+names(55, "x%d")+")"), "spent"},
	})
	got := expanded(t, parse(t, macroOf("((_ a ...) (f (lambda (a) a) ...))", "(m "+names(54, "x%d")+")")), 60)
	if !strings.HasSuffix(got, " (fun (#65) #65))") {
		t.Errorf("a macro that makes 54 functions becomes %s", got)
	}
}

func TestTemplatesThatCannotBeFilled(t *testing.T) {
	const rows = "((_ (a ...) (b ...)) (f (a b) ...)) ((_ a b) 7)"
	const double = "((_ a ...) (f a ... a ...)) ((_ ...) 7)"
	forms := func(n int) string { return strings.Repeat(" x", n) }
	checkExpands(t, 9, []expandCase{
		{macroOf(rows, "(m (x y) (1 2))"), "(f (x 1) (y 2))"},
		{macroOf(rows, "(m (x y) (1))"), "spent"},
		{macroOf(rows, "(m x (1))"), "7"},
		// The result has twice as many nodes as there are forms, and two more.
		{macroOf(double, "(m"+forms(199)+")"), "(f" + forms(398) + ")"},
		{macroOf(double, "(m"+forms(200)+")"), "spent"},
		{macroOf("((_ a) (f a a))", "(m (m (m 1)))"), "(f (f (f 1 1) (f 1 1)) (f (f 1 1) (f 1 1)))"},
	})
	// The use has 2 levels around the data, and the result 4.
	deep := func(levels int) string {
		return macroOf("((_ a) (f (f (quote a))))", "(m "+impl.FormatForm(nested(levels))+")")
	}
	checkExpands(t, 9, []expandCase{
		{deep(37), "(f (f '" + impl.FormatForm(nested(37)) + "))"},
		{deep(38), "spent"},
	})
}

func TestRoomForCorePrograms(t *testing.T) {
	calls := func(nodes int) string { return "((_) (f" + strings.Repeat(" 1", nodes-2) + "))" }
	for _, c := range []struct {
		nodes int
		body  string
		want  string
	}{
		{299, "(g (m) (m))", "ok"},
		{299, "(g (m) (m) 1)", "spent"},
		{300, "(g (m) (m))", "spent"},
		{300, "(g (m) (m) (m) ())", "forms"},
		{150, "(g (m) (m) (m))", "ok"},
		{150, "(g (m) (m) (m) (m))", "spent"},
		{300, "(quote ((m) (m)))", "ok"},
	} {
		got := expanded(t, parse(t, macroOf(calls(c.nodes), c.body)), 60)
		if got != c.want && (c.want != "ok" || slices.Contains(endNames, got)) {
			t.Errorf("with calls of %d nodes, %s is %s, want %s", c.nodes, c.body, got, c.want)
		}
	}
	lists := func(n int, inner string) string { return strings.Repeat("(", n) + inner + strings.Repeat(")", n) }
	// Four uses have 29 levels each, to which those of the fifth one come.
	for last, want := range map[int]string{3: lists(119, "1"), 4: "spent"} {
		program := macroOf("((_) "+lists(last, "1")+") ((_ a b ...) "+lists(29, "(m b ...)")+")", "(m 1 2 3 4)")
		checkExpands(t, 60, []expandCase{{program, want}})
	}
}

func TestExpansionsOfMuchWork(t *testing.T) {
	// Each of 60 steps looks up 150 names, among 54 bindings with the same Name and many scopes.
	var names []string
	for i := range 54 {
		names = append(names, impl.FormatForm(nameForm("x", append([]int{i + 10}, scopesUpTo(99)[76:97]...)...)))
	}
	all := impl.FormatForm(nameForm("x", scopesUpTo(99)[76:97]...))
	body := macroOf("((_ a ...) (f a ... (m a ...)))", "(m"+strings.Repeat(" "+all, 150)+")")
	if got := expanded(t, parse(t, "(lambda ("+strings.Join(names, " ")+") "+body+")"), 60); got != "spent" {
		t.Errorf("the expansion ends with %s", got)
	}
}

func TestExpansionsKeepNoState(t *testing.T) {
	f := parse(t, macroOf("((_ a) (let ((x a)) (f x a)))", "(lambda (x) (m x))"))
	const want = "(fun (#12) ((fun (#13) (f #13 #12)) #12))"
	for range 20 {
		if got := expanded(t, f, 60); got != want {
			t.Fatalf("the expansion is %s, want %s", got, want)
		}
		expanded(t, f, 0)
		expanded(t, parse(t, "(lambda (x f) (f x))"), 60)
		expanded(t, selfHolding(), 60)
	}
}

func TestExpandingSharesNoMemory(t *testing.T) {
	text := "(lambda{4} (x y{5}) " + macroOf("((_ a b) (quote (a{7} (b c))))", "(f x (m z{6} (w)) (quote (v{1} ())) (let ((x 1)) x))") + ")"
	f := roomyCopy(parse(t, text))
	before := memoryOfForm(f)
	first, _ := impl.ExpandForm(f, 9)
	again, end := impl.ExpandForm(f, 9)
	want := impl.FormatCore(again)
	if end != impl.ExpandOk || impl.FormatCore(first) != want || memoryOfForm(f) != before {
		t.Fatalf("ExpandForm = %s, %d, or changes its argument", want, end)
	}
	checkKidsApart(t, first)
	spoilCore(first)
	if memoryOfForm(f) != before || impl.FormatCore(again) != want {
		t.Error("ExpandForm shares memory with its argument or another result")
	}
}
