package tests

import (
	"fmt"
	"math"
	"strings"
	"testing"

	"loop.example/macroexpander/impl"
)

// captureCase is a program with what is told of it: "no" if it captures nothing, "yes" and the captured name otherwise.
type captureCase struct{ text, want string }

func captureText(f impl.Form, budget int) string {
	name, ok := impl.CapturedName(f, budget)
	switch {
	case ok == (name == ""):
		return fmt.Sprintf("the name %q with %v", name, ok)
	case ok && !impl.Captures(f, budget):
		return "a captured name without a capture, " + name
	case !impl.Captures(f, budget):
		return "no"
	}
	return strings.TrimSpace("yes " + name)
}

func checkCaptures(t *testing.T, budget int, cases []captureCase) {
	t.Helper()
	for _, c := range cases {
		if got := captureText(parse(t, c.text), budget); got != c.want {
			t.Errorf("Captures of %s is %q, want %q", c.text, got, c.want)
		}
	}
}

// ruleBinding is a macro whose template binds x around what is in the use.
const ruleBinding = "((_ e) (let ((x 2)) (+ x e)))"

func TestCaptures(t *testing.T) {
	checkCaptures(t, 20, []captureCase{
		// A template binds a name of the use.
		{"(let ((x 1)) " + macroOf(ruleBinding, "(m x)") + ")", "yes x"},
		{"(let ((y 1)) " + macroOf(ruleBinding, "(m y)") + ")", "no"},
		{macroOf(ruleBinding, "(let ((x 1)) (m x))"), "yes x"},
		{macroOf(ruleBinding, "(m x)"), "yes x"},
		{macroOf(ruleBinding, "(m (quote x))"), "no"},
		{macroOf(ruleBinding, "(lambda (x) (m (lambda (x) x)))"), "no"},
		{"(let-syntax ((or (rules () ((_) 0) ((_ a) a) ((_ a b ...) (let ((t a)) (if t t (or b ...))))))) (let ((t 5)) (or 0 t)))", "yes t"},
		{"(let-syntax ((or (rules () ((_) 0) ((_ a) a) ((_ a b ...) (let ((t a)) (if t t (or b ...))))))) (let ((t 5)) (or t 0)))", "no"},
		{"(let ((tmp 5) (z 6)) (let-syntax ((swap (rules () ((_ a b) (let ((tmp a)) (list b tmp)))))) (swap z tmp)))", "yes tmp"},
		// A use hides a name of the template: a fresh one stands for something else.
		{"(let ((y 1)) " + macroOf("((_ e) (+ y e))", "(let ((y 2)) (m y))") + ")", "yes"},
		{"(let ((y 1)) " + macroOf("((_ e) (+ y e))", "(let ((z 2)) (m z))") + ")", "no"},
		{macroOf("((_ a) (if a 1 2))", "(let ((if list)) (m 5))"), "yes"},
		{macroOf("((_) (n))", "(let-syntax ((n (rules () ((_) 7)))) (m))"), "yes"},
		{macroOf("((_) z)", "(lambda (z) (m))"), "yes"},
		{macroOf("((_ e) (+ e 1))", "(lambda (+) (m +))"), "yes"},
		// A literal is another name at the use.
		{"(lambda (k) (let-syntax ((m (rules (k) ((_ k) 1) ((_ e) 2)))) (lambda (k) (m k))))", "yes k"},
		{"(lambda (k) (let-syntax ((m (rules (k) ((_ k) 1) ((_ e) 2)))) (m k)))", "no"},
		{"(let-syntax ((m (rules (else) ((_ else a) a) ((_ b a) (list b a))))) (let ((else 3)) (m else 4)))", "yes else"},
		// Without macros, or with macros that have no uses.
		{"(lambda (x) (lambda (x) x))", "no"},
		{"(let ((x 1)) " + macroOf(ruleBinding, "x") + ")", "no"},
		{"5", "no"},
		{"x", "no"},
	})
}

func TestCapturesInMacrosOfMacros(t *testing.T) {
	const inner = "(let-syntax ((n (rules () ((_ e) (let ((x 2)) (+ x e))))))"
	checkCaptures(t, 20, []captureCase{
		// All of a name in the rules is replaced, at every level.
		{"(lambda (x) " + macroOf("((_ v) "+inner+" (n v)))", "(m x)") + ")", "yes x"},
		{"(lambda (x) " + macroOf("((_ v) "+inner+" (n v)))", "(m y)") + ")", "no"},
		{"(lambda (x) " + macroOf("((_) "+inner+" (n x)))", "(m)") + ")", "yes"},
		{"(lambda (x) " + macroOf("((_ n v) (let-syntax ((n (rules () ((_ e) (let ((x 2)) (+ x e)))))) (n v)))", "(m k x)") + ")", "yes x"},
		{"(let-syntax ((twice (rules () ((_ e) (let-syntax ((m (rules () ((_) 1)))) (list e (m))))))) (lambda (m) (twice (m))))", "yes m"},
		// The macro of a body is no part of rules.
		{"(lambda (x) (let-syntax ((k (rules () ((_ v) v)))) " + inner + " (k (n x)))))", "yes x"},
		{"(lambda (x) " + macroOf("((_ v) (let ((x 1)) v))", "(let-syntax ((n (rules () ((_ v) (let ((y 1)) v))))) (n (m x)))") + ")", "yes x"},
	})
}

func TestCapturedNames(t *testing.T) {
	const binds = "((_ a b) (let ((x 3) (y 4)) (f a b x y)))"
	const choose = "(let-syntax ((m (rules LITERALS ((_ k j) 1) ((_ a b) 2)))) (lambda (k) (m k j)))"
	checkCaptures(t, 20, []captureCase{
		// Both names are captured, and so one fresh name is too few.
		{"(lambda (x y) " + macroOf(binds, "(m x y)") + ")", "yes"},
		{"(lambda (x y) " + macroOf(binds, "(m x z)") + ")", "yes x"},
		{"(lambda (x y) " + macroOf(binds, "(m z y)") + ")", "yes y"},
		{"(lambda (x y) " + macroOf(binds, "(list (m x z) (m z x))") + ")", "yes x"},
		{"(lambda (x y) " + macroOf(binds, "(list (m x z) (m z y))") + ")", "yes"},
		// Two names would do: the first one counts, wherever in the program it is.
		{strings.Replace(choose, "LITERALS", "(k j)", 1), "yes k"},
		{strings.Replace(choose, "LITERALS", "(j k)", 1), "yes j"},
		{"(list j " + strings.Replace(choose, "LITERALS", "(k j)", 1) + ")", "yes j"},
		{"(list k j " + strings.Replace(choose, "LITERALS", "(j k)", 1) + ")", "yes k"},
		// Fresh names are such as the program does not have.
		{"(lambda (x fresh0) " + macroOf("((_ e) (let ((x 2)) (f x fresh0 e)))", "(m x)") + ")", "yes x"},
		{"(lambda (x fresh1) " + macroOf("((_ e) (let ((x 2)) (f x fresh1 e)))", "(m x)") + ")", "yes x"},
		{"(lambda (x) " + macroOf("((_ e) (let ((x 2)) (f x e)))", "(lambda (fresh0 fresh1) (list (m x) (m fresh0) (m fresh1)))") + ")", "yes x"},
		{"(lambda (fresh0) " + macroOf("((_ e) (let ((fresh0 2)) (f fresh0 e)))", "(m fresh0)") + ")", "yes fresh0"},
		// All lists that begin with rules are changed, whatever they are there for, and nothing else is.
		{"(lambda (x) (list (quote (rules y)) " + macroOf(ruleBinding, "(m x)") + "))", "yes x"},
		{"(lambda (x) (list (quote (rules x)) " + macroOf(ruleBinding, "(m x)") + "))", "yes"},
		{"(lambda (x) (list (quote (1 (rules 2 ((x))))) " + macroOf(ruleBinding, "(m x)") + "))", "yes"},
		{"(lambda (x) (list (quote (x rules)) " + macroOf(ruleBinding, "(m x)") + "))", "yes x"},
		{"(lambda (x) (list (quote (() rules x)) " + macroOf(ruleBinding, "(m x)") + "))", "yes x"},
		{"(lambda (x) (list (quote ((rules) x)) " + macroOf(ruleBinding, "(m x)") + "))", "yes x"},
		{"(lambda (x) (list (quote (rules (x))) " + macroOf(ruleBinding, "(m x)") + "))", "yes"},
		{"(lambda (x) (list (quote (rule x)) (quote rules) (quote ()) " + macroOf(ruleBinding, "(m x)") + "))", "yes x"},
		// The name of rules, and of other things in them, can be captured, too.
		{"(lambda (rules) " + macroOf("((_ e) (let ((rules 2)) (f rules e)))", "(m rules)") + ")", "yes"},
		{"(lambda (e) " + macroOf("((_ p) (let ((e 2)) (f e p)))", "(m e)") + ")", "yes e"},
		{"(lambda (_) " + macroOf("((n e) (let ((_ 2)) (f _ e)))", "(m _)") + ")", "yes _"},
		{"(lambda (m) " + "(let-syntax ((k (rules () ((_ e) (let ((m 2)) (f m e)))))) (k m)))", "yes m"},
	})
}

func TestCapturesNeedsBothExpansions(t *testing.T) {
	captured := "(lambda (x) " + macroOf(ruleBinding, "(m x)") + ")"
	for budget, want := range map[int]string{0: "no", 1: "yes x", 2: "yes x", 60: "yes x", 61: "no", -1: "no", math.MaxInt: "no", math.MinInt: "no"} {
		checkCaptures(t, budget, []captureCase{{captured, want}})
	}
	checkCaptures(t, 20, []captureCase{
		{"(list () " + captured + ")", "no"},
		{"(list " + captured + " if)", "no"},
		{"(list " + captured + " y{1})", "no"},
		{"(lambda (x{5}) " + macroOf(ruleBinding, "(m x{5})") + ")", "no"},
		// Only the naive expansion ends in another way than with a program.
		{macroOf("((_ x) (lambda (x y) 1))", "(m y)"), "no"},
		{macroOf("((_) (n))", "(let-syntax ((n (rules ()))) (m))"), "no"},
		{macroOf("((_) if)", "(lambda (if) (m))"), "no"},
		// Only the other one does.
		{"(list " + functions(25, "y") + " " + captured + ")", "no"},
		{"(list (lambda (" + numbered(55, "y%d") + ") 1) " + captured + ")", "no"},
		{functions(20, captured), "yes x"},
	})
	// The fresh name takes more steps than the budget has.
	more := "(let-syntax ((m (rules (k) ((_ k) 1) ((_ e) (m e e)) ((_ d e) (m d e e)) ((_ c d e) 2)))) (lambda (k) (m k)))"
	for budget, want := range map[int]string{2: "no", 3: "yes k"} {
		checkCaptures(t, budget, []captureCase{{more, want}})
	}
	for what, f := range invalidForms() {
		for _, g := range []impl.Form{f, listForm(nameForm("quote"), f)} {
			if got := captureText(g, 20); got != "no" {
				t.Errorf("Captures of %s is %q", what, got)
			}
		}
	}
}

func TestCapturedNameKeepsNoState(t *testing.T) {
	f := roomyCopy(parse(t, "(lambda (x) "+macroOf(ruleBinding, "(m x)")+")"))
	before := memoryOfForm(f)
	for range 20 {
		if got := captureText(f, 9); got != "yes x" || memoryOfForm(f) != before {
			t.Fatalf("Captures is %q, or changes its argument", got)
		}
		captureText(parse(t, "(lambda (fresh0 fresh1) x)"), 9)
	}
}

func TestCapturedNameOfMuchWork(t *testing.T) {
	// All of 100 names are in rules, and none of them makes the naive program right.
	text := "(let ((y 1)) (let-syntax ((m (rules () ((_ e) (+ y e)) ((_ e 1) (quote (" + numbered(100, "n%d") + "))))) " +
		"(h (rules () ((_ () a ...) 1) ((_ (b c ...) a ...) (h (c ...) a ...))))) (let ((y 2)) (list (m y) (h (" +
		strings.Repeat("1 ", 55) + ") 1 2 3)))))"
	checkCaptures(t, 60, []captureCase{{text, "yes"}})
}

func TestRenameName(t *testing.T) {
	for _, c := range []struct{ text, old, now, want string }{
		{"x", "x", "y", "y"},
		{"x", "y", "z", "x"},
		{"(x (y x) ((x)) 5 ())", "x", "z", "(z (y z) ((z)) 5 ())"},
		{"(x y)", "x", "y", "(y y)"},
		{"(x y)", "x", "x", "(x y)"},
		{"(x xx x1 x-)", "x", "q", "(q xx x1 x-)"},
		{"(x{1,2} x y{3})", "x", "y", "(y{1,2} y y{3})"},
		{"(... _ x)", "...", "x", "(x _ x)"},
		{"(... _ x)", "x", "...", "(... _ ...)"},
		{"(... _ x)", "_", "abcdefghijkl", "(... abcdefghijkl x)"},
		{"(let ((x 1)) (quote x))", "let", "lambda", "(lambda ((x 1)) (quote x))"},
		{"5", "x", "y", "5"},
		{"()", "x", "y", "()"},
	} {
		f := parse(t, c.text)
		g, ok := impl.RenameName(f, c.old, c.now)
		if got := impl.FormatForm(g); !ok || got != c.want || impl.FormatForm(f) != c.text {
			t.Errorf("RenameName of %s, %s and %s = %s, %v", c.text, c.old, c.now, got, ok)
		}
	}
	long, ok := impl.RenameName(wide(400), "x", "y")
	if !ok || impl.CountName(long, "y") != 399 {
		t.Errorf("RenameName of 399 names = %s, %v", impl.FormatForm(long), ok)
	}
	deep, ok := impl.RenameName(within(39, nameForm("x", scopesUpTo(24)...)), "x", "y")
	if !ok || !impl.FormSame(deep, within(39, nameForm("y", scopesUpTo(24)...))) {
		t.Errorf("RenameName of a name in 39 lists = %s, %v", impl.FormatForm(deep), ok)
	}
}

func TestRenameNameRefuses(t *testing.T) {
	f := parse(t, "(x y)")
	for _, bad := range []string{"", "X", "1", "1x", "x y", "x{1}", "..", "....", "abcdefghijklm", "\xff", "(", "é"} {
		for _, names := range [][2]string{{bad, "x"}, {"x", bad}, {bad, bad}, {"absent", bad}} {
			if g, ok := impl.RenameName(f, names[0], names[1]); ok || !isZero(g) {
				t.Errorf("RenameName of %q = %v, %v", names, g, ok)
			}
		}
	}
	for what, f := range invalidForms() {
		for _, g := range []impl.Form{f, listForm(nameForm("x"), f)} {
			if h, ok := impl.RenameName(g, "x", "y"); ok || !isZero(h) {
				t.Errorf("RenameName of %s = %v, %v", what, h, ok)
			}
		}
	}
}

func TestRenamingSharesNoMemory(t *testing.T) {
	f := roomyCopy(parse(t, "(x{1,2} (y{3} 5) () x)"))
	for i := range f.Kids {
		if f.Kids[i].Kind != impl.KindName {
			f.Kids[i].Scopes = append([]int(nil), 44, 55)[:0]
		}
	}
	before := memoryOfForm(f)
	for _, old := range []string{"x", "y", "z"} {
		g, ok := impl.RenameName(f, old, "w")
		again, _ := impl.RenameName(f, old, "w")
		want := impl.FormatForm(again)
		if !ok || impl.FormatForm(g) != want || memoryOfForm(f) != before {
			t.Fatalf("RenameName = %s, %v, or changes its argument", impl.FormatForm(g), ok)
		}
		checkPartsApart(t, g)
		spoil(g)
		if memoryOfForm(f) != before || impl.FormatForm(again) != want {
			t.Error("RenameName shares memory with its argument or another result")
		}
	}
}

// freshForm returns a list of the fresh names with these numbers, from first up to last.
func freshForm(first int, last int) impl.Form {
	f := listForm()
	for i := first; i <= last; i++ {
		f.Kids = append(f.Kids, nameForm(fmt.Sprint("fresh", i)))
	}
	return f
}

func TestFreshName(t *testing.T) {
	for text, want := range map[string]string{
		"x": "fresh0", "5": "fresh0", "()": "fresh0", "fresh0": "fresh1", "fresh1": "fresh0", "(fresh0 fresh2)": "fresh1",
		"(fresh1 fresh0)": "fresh2", "(f (fresh0 ((fresh1{4} 2))))": "fresh2", "(fresh fresh00 fresh01)": "fresh0", "(fresh0 fresh0)": "fresh1",
	} {
		if got := impl.FreshName(parse(t, text)); got != want {
			t.Errorf("FreshName of %s = %q, want %q", text, got, want)
		}
	}
	// A form with more than 399 of them is not valid, but accepted.
	for what, c := range map[string]struct {
		f    impl.Form
		want string
	}{
		"fresh0 to fresh9":                {freshForm(0, 9), "fresh10"},
		"fresh0 to fresh398":              {freshForm(0, 398), "fresh399"},
		"fresh0 to fresh399":              {freshForm(0, 399), "fresh400"},
		"fresh0 to fresh400":              {freshForm(0, 400), ""},
		"fresh1 to fresh400":              {freshForm(1, 400), "fresh0"},
		"fresh0 to fresh500":              {freshForm(0, 500), ""},
		"all but fresh200":                {listForm(freshForm(0, 199), freshForm(201, 600)), "fresh200"},
		"the zero value":                  {impl.Form{}, "fresh0"},
		"a list named fresh0":             {impl.Form{Kind: impl.KindList, Name: "fresh0"}, "fresh0"},
		"a number named fresh0":           {listForm(impl.Form{Kind: impl.KindNum, Name: "fresh0"}, nameForm("fresh1")), "fresh0"},
		"a name with fresh0 in it":        {impl.Form{Kind: impl.KindName, Name: "x", Kids: freshForm(0, 0).Kids}, "fresh1"},
		"fresh0 with scopes out of order": {nameForm("fresh0", 7, 3), "fresh1"},
	} {
		if got := impl.FreshName(c.f); got != c.want {
			t.Errorf("FreshName of %s = %q, want %q", what, got, c.want)
		}
	}
}

func TestCountName(t *testing.T) {
	f := parse(t, "(x (x{1} y) ((x{1} x{2,3})) 5 () xx (...) _)")
	for name, want := range map[string]int{"x": 4, "y": 1, "xx": 1, "...": 1, "_": 1, "z": 0, "": 0, "x{1}": 0, "5": 0, "()": 0, "\xff": 0} {
		if got := impl.CountName(f, name); got != want {
			t.Errorf("CountName of %q = %d, want %d", name, got, want)
		}
	}
	kids := []impl.Form{nameForm("x"), nameForm("")}
	for what, c := range map[string]struct {
		f    impl.Form
		name string
		want int
	}{
		"a name":                     {nameForm("x"), "x", 1},
		"many names":                 {wide(100001), "x", 100000},
		"names within a name":        {impl.Form{Kind: impl.KindName, Name: "x", Kids: kids}, "x", 2},
		"names within a number":      {impl.Form{Kind: impl.KindNum, Name: "x", Kids: kids}, "x", 1},
		"names within another kind":  {impl.Form{Kind: 7, Name: "x", Kids: kids}, "x", 1},
		"a list with a name":         {impl.Form{Kind: impl.KindList, Name: "x"}, "x", 0},
		"no name":                    {listForm(kids...), "", 1},
		"a name that is not valid":   {listForm(nameForm("A b"), nameForm("A b", -1)), "A b", 2},
		"a name in very many lists":  {within(100000, nameForm("x")), "x", 1},
		"a form within itself":       {selfHolding(), "x", 0},
		"the zero value":             {impl.Form{}, "", 0},
		"the zero value, and a name": {impl.Form{}, "x", 0},
	} {
		if got := impl.CountName(c.f, c.name); got != c.want {
			t.Errorf("CountName of %s = %d, want %d", what, got, c.want)
		}
	}
}

// TestRenamedNamesAreCounted tells that a renaming moves all of a name, and can be taken back if the new one is fresh.
func TestRenamedNamesAreCounted(t *testing.T) {
	for _, f := range dressedForms() {
		for _, old := range append(impl.NamesOf(f), "absent") {
			fresh := impl.FreshName(f)
			g, ok := impl.RenameName(f, old, fresh)
			back, again := impl.RenameName(g, fresh, old)
			if !ok || !again || !impl.FormSame(f, back) || impl.FormSize(g) != impl.FormSize(f) {
				t.Fatalf("the renaming of %s in %s is not taken back", old, impl.FormatForm(f))
			}
			if impl.CountName(g, old) != 0 || impl.CountName(g, fresh) != impl.CountName(f, old) || impl.CountName(f, fresh) != 0 {
				t.Fatalf("%s is not renamed everywhere in %s", old, impl.FormatForm(f))
			}
		}
	}
}
