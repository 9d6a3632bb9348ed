package tests

import (
	"fmt"
	"math"
	"slices"
	"strings"
	"testing"

	"loop.example/macroexpander/impl"
)

// evalEnds are the ends of evaluations, as the tests tell them.
var evalEnds = []string{"ok", "free", "call", "args", "fuel", "bad"}

func isZeroValue(v impl.Value) bool {
	return v.Kind == 0 && v.N == 0 && v.Name == "" && len(v.Items) == 0 && isZeroCore(v.Fun) && len(v.Env) == 0
}

// evaluatedCore returns the text of the value of c, or the end of the evaluation.
func evaluatedCore(t *testing.T, c impl.Core, fuel int) string {
	t.Helper()
	v, end := impl.EvalCore(c, fuel)
	if end < 0 || end >= len(evalEnds) {
		t.Fatalf("EvalCore of %s ends with %d", impl.FormatCore(c), end)
	}
	if end == impl.EvalOk {
		return impl.FormatValue(v)
	}
	if !isZeroValue(v) {
		t.Errorf("with the end %s, the value is %v", evalEnds[end], v)
	}
	return evalEnds[end]
}

// evaluated returns the text of the value of the form with this text, or the end of the evaluation.
func evaluated(t *testing.T, text string, fuel int) string {
	t.Helper()
	f := parse(t, text)
	c, end := impl.ExpandForm(f, 30)
	if end != impl.ExpandOk {
		t.Fatalf("%s ends with %s", text, endNames[end])
	}
	got := evaluatedCore(t, c, fuel)
	v, endOfExpansion, last := impl.EvalForm(f, 30, fuel)
	if endOfExpansion != impl.ExpandOk || last != impl.EvalOk && (evalEnds[last] != got || !isZeroValue(v)) ||
		last == impl.EvalOk && impl.FormatValue(v) != got {
		t.Errorf("EvalForm of %s = %v, %d, %d, and EvalCore gives %s", text, v, endOfExpansion, last, got)
	}
	return got
}

func checkEvaluates(t *testing.T, fuel int, cases []expandCase) {
	t.Helper()
	for _, c := range cases {
		if got := evaluated(t, c.text, fuel); got != c.want {
			t.Errorf("with the fuel %d, the value of %s is %s, want %s", fuel, c.text, got, c.want)
		}
	}
}

func TestEvalAtoms(t *testing.T) {
	checkEvaluates(t, 1, []expandCase{
		{"0", "0"},
		{"999", "999"},
		{"(quote 0)", "0"},
		{"(quote x)", "x"},
		{"(quote x{1,2})", "x"},
		{"(quote ...)", "..."},
		{"(quote list)", "list"},
		{"(quote ())", "()"},
		{"(quote (a (b) 3 () (quote c)))", "(a (b) 3 () (quote c))"},
	})
	for _, name := range []string{"list", "+", "<", "=", "head", "tail"} {
		v, end := impl.EvalCore(free(name), 1)
		if end != impl.EvalOk || !sameValues(v, impl.Value{Kind: impl.ValPrim, Name: name}) {
			t.Errorf("the value of %s is %v, %d", name, v, end)
		}
	}
	for _, name := range []string{"x", "...", "_", "if", "lambda", "quote", "let", "cons", "*", "list1", "lis", "heads", "==", "<=", "++", "+1", "-", "null?"} {
		if impl.NameValid(name) && evaluatedCore(t, free(name), 9) != "free" {
			t.Errorf("%s has a value", name)
		}
	}
}

func TestEvalChoices(t *testing.T) {
	checkEvaluates(t, 30, []expandCase{
		{"(if 0 1 2)", "2"},
		{"(if 1 1 2)", "1"},
		{"(if 999 1 2)", "1"},
		{"(if (+ 999 1) 1 2)", "2"},
		{"(if (quote 0) 1 2)", "2"},
		// Only the number 0 is false.
		{"(if (quote ()) 1 2)", "1"},
		{"(if (list) 1 2)", "1"},
		{"(if (list 0) 1 2)", "1"},
		{"(if (quote x) 1 2)", "1"},
		{"(if list 1 2)", "1"},
		{"(if (lambda () 0) 1 2)", "1"},
		{"(if (= 1 2) 1 2)", "2"},
		{"(if (< 1 2) 1 2)", "1"},
		// The other branch is not evaluated.
		{"(if 0 unknown 2)", "2"},
		{"(if 1 2 unknown)", "2"},
		{"(if 0 (1) 2)", "2"},
		{"(if 1 2 ((lambda (x) x)))", "2"},
		{"(if unknown 1 2)", "free"},
		{"(if 0 1 unknown)", "free"},
		{"(if 1 unknown 1)", "free"},
		{"(if (if 0 1 0) (if 1 2 3) (if 0 4 (if 7 5 6)))", "5"},
	})
}

func TestBuiltinFunctions(t *testing.T) {
	checkEvaluates(t, 100, []expandCase{
		{"(list)", "()"},
		{"(list 1)", "(1)"},
		{"(list 1 (quote a) list (list) (lambda () 1))", "(1 a list () #fun0)"},
		{"(+)", "0"},
		{"(+ 7)", "7"},
		{"(+ 1 2 3 4 5)", "15"},
		{"(+ 999 1)", "0"},
		{"(+ 999 999)", "998"},
		{"(+ 999 999 999 999 999 6)", "1"},
		{"(+ 500 499)", "999"},
		{"(< 1 2)", "1"},
		{"(< 2 1)", "0"},
		{"(< 2 2)", "0"},
		{"(< 0 999)", "1"},
		{"(= 1 2)", "0"},
		{"(= 2 1)", "0"},
		{"(= 2 2)", "1"},
		{"(= 0 0)", "1"},
		{"(head (list 1))", "1"},
		{"(head (quote (a b)))", "a"},
		{"(head (list (list 1 2) 3))", "(1 2)"},
		{"(tail (list 1))", "()"},
		{"(tail (list 1 2 3))", "(2 3)"},
		{"(tail (tail (quote (a b (c)))))", "((c))"},
		{"(head (tail (list 1 2 3)))", "2"},
		{"((head (list + list)) 1 2)", "3"},
		{"((if 0 + list) 1 2)", "(1 2)"},
		{"(let ((f +)) (f 1 (f 2 3)))", "6"},
		{"(let ((+ list)) (+ 1 2))", "(1 2)"},
		{"((lambda (list) (list 1)) (lambda (x) (+ x x)))", "2"},
	})
}

func TestArgumentsOfBuiltinFunctions(t *testing.T) {
	others := []string{"(quote a)", "(list)", "(list 1)", "list", "(lambda () 1)", "(quote +)"}
	for _, name := range []string{"+", "<", "="} {
		for _, other := range others {
			checkEvaluates(t, 30, []expandCase{
				{"(" + name + " " + other + ")", "args"},
				{"(" + name + " 1 " + other + ")", "args"},
				{"(" + name + " " + other + " 1)", "args"},
				{"(" + name + " " + other + " " + other + ")", "args"},
				{"(" + name + " 1 2 " + other + ")", "args"},
			})
		}
	}
	for _, name := range []string{"<", "="} {
		checkEvaluates(t, 30, []expandCase{
			{"(" + name + ")", "args"}, {"(" + name + " 1)", "args"}, {"(" + name + " 1 2 3)", "args"}, {"(" + name + " 1 1 1)", "args"},
		})
	}
	for _, name := range []string{"head", "tail"} {
		checkEvaluates(t, 30, []expandCase{
			{"(" + name + ")", "args"},
			{"(" + name + " (list))", "args"},
			{"(" + name + " (quote ()))", "args"},
			{"(" + name + " (list 1) (list 2))", "args"},
			{"(" + name + " (list 1) 1)", "args"},
			{"(" + name + " 1)", "args"},
			{"(" + name + " (quote a))", "args"},
			{"(" + name + " list)", "args"},
			{"(" + name + " (lambda () 1))", "args"},
			{"(" + name + " (" + name + " (quote (()))))", "args"},
		})
	}
}

func TestEvalCalls(t *testing.T) {
	checkEvaluates(t, 300, []expandCase{
		{"((lambda () 5))", "5"},
		{"((lambda (x) x) 5)", "5"},
		{"((lambda (x y) (list y x)) 1 2)", "(2 1)"},
		{"((lambda (x y z) y) 1 2 3)", "2"},
		{"(let () 7)", "7"},
		{"(let ((f (lambda (x) (+ x 1)))) (f (f 5)))", "7"},
		{"(((lambda (x) (lambda (y) (list x y))) 1) 2)", "(1 2)"},
		{"((((lambda () (lambda () (lambda () 3))))))", "3"},
		{"(let ((twice (lambda (f) (lambda (x) (f (f x)))))) (((twice twice) (lambda (n) (+ n 3))) 0))", "12"},
		{"((lambda (f) (f)) (lambda () 1))", "1"},
		// The number of arguments.
		{"((lambda () 1) 1)", "args"},
		{"((lambda (x) 1))", "args"},
		{"((lambda (x) 1) 1 2)", "args"},
		{"((lambda (x y) 1) 1)", "args"},
		{"((lambda (x y) unknown) 1)", "args"},
		{"(let ((f (lambda (x) 1))) (f f f))", "args"},
		// What cannot be called, with any arguments.
		{"(1)", "call"},
		{"(0 1 2)", "call"},
		{"((quote list) 1)", "call"},
		{"((quote +))", "call"},
		{"((quote ()))", "call"},
		{"((list))", "call"},
		{"((list +) 1)", "call"},
		{"(let ((x 1)) (x))", "call"},
		{"((+ 1 2) 3)", "call"},
		{"(((lambda () 1)))", "call"},
	})
}

func TestPartsAreEvaluatedInOrder(t *testing.T) {
	ways := map[string]string{
		"unknown": "free", "(1)": "call", "(+ list)": "args", "((lambda (w) (w w)) (lambda (w) (w w)))": "fuel",
	}
	for first, want := range ways {
		for second := range ways {
			for _, form := range []string{
				"(A B)", "(list A B)", "(1 A B)", "(+ (quote x) A B)", "((lambda () 1) A B)", "(A)", "(A 1 2)", "((list A) B)",
				"(if A B B)", "(if 0 B A)", "(if 1 A B)", "((lambda (x) B) A)", "(list (list 1 A) B)",
				"(let ((x A) (y B)) B)", "(let ((f (lambda () B))) (list A (f)))", "(let ((f (lambda () A))) (list (f) B))",
				"((lambda (x y) B) 1 A)", "((lambda (x y) A) 1 2)", "((lambda () (list A B)))", "(head (list A B))", "(if (list A) B B)",
			} {
				text := strings.NewReplacer("A", first, "B", second).Replace(form)
				checkEvaluates(t, 200, []expandCase{{text, want}})
			}
			// What is not evaluated has no end.
			checkEvaluates(t, 200, []expandCase{
				{"(lambda (x) " + first + ")", "#fun1"},
				{"(head (list 4 (lambda () " + first + ") " + second + "))", ways[second]},
				{"(if 1 4 " + first + ")", "4"},
				{"(quote " + first + ")", evaluated(t, "(quote "+first+")", 1)},
			})
		}
	}
}

func TestHiddenVariables(t *testing.T) {
	checkEvaluates(t, 1000, []expandCase{
		{"(let ((x 1)) (let ((f (lambda () x))) (let ((x 2)) (f))))", "1"},
		{"(let ((x 1)) (let ((f (lambda () x))) (let ((x 2)) (list x (f) x))))", "(2 1 2)"},
		{"(let ((x 1)) (let ((x 2)) x))", "2"},
		{"(let ((x 1)) (list (let ((x 2)) x) x))", "(2 1)"},
		{"(let ((x 1)) (let ((x (+ x 1))) (let ((x (+ x x))) x)))", "4"},
		{"(let ((x 1)) ((lambda (x) (list x)) (+ x 5)))", "(6)"},
		{"(let ((x 1)) (let ((x 2) (y x)) (list x y)))", "(2 1)"},
		{"(let ((f (lambda (x) (lambda () x)))) (let ((g (f 1)) (h (f 2))) (list (g) (h) (g))))", "(1 2 1)"},
		{"(let ((x 3)) (let ((f (lambda (y) (list x y)))) (let ((x 4) (y 5)) (f 6))))", "(3 6)"},
		// A built-in function that a variable hides.
		{"(let ((list +)) (let ((f (lambda (x) (list x x)))) (let ((list head)) (f 2))))", "4"},
		{"(let ((head 1)) (head (list 1)))", "call"},
		// Each call of a function has its own variables.
		{"(let ((f (lambda (f n) (if n (list n (f f (+ n 999)) n) 0)))) (f f 3))", "(3 (2 (1 0 1) 2) 3)"},
		{"(let ((f (lambda (f n k) (if n (f f (+ n 999) (lambda () (list n (k)))) (k))))) (f f 3 (lambda () 9)))", "(1 (2 (3 9)))"},
	})
	// Functions beside each other can have the same variables.
	x1, x2, x3 := variable(1), variable(2), variable(3)
	for i, c := range []struct {
		core impl.Core
		want string
	}{
		{call(function(call(x1, number(3)), 1), function(x1, 1)), "3"},
		{call(function(call(x1, function(x2, 2)), 1), function(call(x2, number(4)), 2)), "4"},
		{call(function(call(free("list"), call(x1, number(3)), x2), 1, 2), function(x2, 2), number(5)), "(3 5)"},
		{call(function(call(free("list"), call(x2, number(3)), x1), 1, 2), number(5), function(x1, 1)), "(3 5)"},
		{call(function(call(function(call(function(call(x2), 3), number(9)), 2), function(x1)), 1), number(7)), "7"},
		{call(free("list"), call(function(x1, 1), number(1)), call(function(x1, 2, 1), number(2), number(3))), "(1 3)"},
		{call(call(function(function(call(free("list"), x1, x2, x3), 2), 3, 1), number(1), number(2)), number(3)), "(2 3 1)"},
	} {
		if got := evaluatedCore(t, c.core, 100); got != c.want {
			t.Errorf("the value of program %d, %s, is %s, want %s", i, impl.FormatCore(c.core), got, c.want)
		}
	}
}

// num and the functions behind it return values as a program has them.
func num(n int) impl.Value {
	return impl.Value{Kind: impl.ValNum, N: n}
}

func listOf(items ...impl.Value) impl.Value {
	return impl.Value{Kind: impl.ValList, Items: items}
}

func sym(name string) impl.Value {
	return impl.Value{Kind: impl.ValName, Name: name}
}

func prim(name string) impl.Value {
	return impl.Value{Kind: impl.ValPrim, Name: name}
}

func closure(fun impl.Core, env ...impl.Slot) impl.Value {
	return impl.Value{Kind: impl.ValFun, Fun: fun, Env: env}
}

func slot(id int, v impl.Value) impl.Slot {
	return impl.Slot{Id: id, Val: v}
}

// sameValues compares all fields, at every level.
func sameValues(a impl.Value, b impl.Value) bool {
	return a.Kind == b.Kind && a.N == b.N && a.Name == b.Name && impl.CoreSame(a.Fun, b.Fun) &&
		slices.EqualFunc(a.Items, b.Items, sameValues) &&
		slices.EqualFunc(a.Env, b.Env, func(x impl.Slot, y impl.Slot) bool { return x.Id == y.Id && sameValues(x.Val, y.Val) })
}

func TestValuesOfPrograms(t *testing.T) {
	id := function(variable(5), 5)
	constant := function(function(variable(3), 8), 3, 4)
	for _, c := range []struct {
		core impl.Core
		want impl.Value
	}{
		{number(0), num(0)},
		{quote(numForm(7)), num(7)},
		{quote(nameForm("x")), sym("x")},
		{free("tail"), prim("tail")},
		{quote(parse(t, "(a (1) ())")), listOf(sym("a"), listOf(num(1)), listOf())},
		{call(free("list"), number(1), free("+"), quote(nameForm("+"))), listOf(num(1), prim("+"), sym("+"))},
		{call(free("tail"), call(free("list"), number(1))), listOf()},
		{id, closure(id)},
		{function(id), closure(function(id))},
		// The variables around are all there, used or not, the outermost one first.
		{call(constant, number(1), number(2)), closure(constant.Kids[0], slot(3, num(1)), slot(4, num(2)))},
		{call(function(id, 2, 9, 1), number(6), number(7), number(8)), closure(id, slot(2, num(6)), slot(9, num(7)), slot(1, num(8)))},
		{call(call(function(function(function(number(1)), 7), 9, 8), number(1), number(2)), number(3)),
			closure(function(number(1)), slot(9, num(1)), slot(8, num(2)), slot(7, num(3)))},
		{call(call(call(function(function(function(id, 1)), 2), number(4))), id), closure(id, slot(2, num(4)), slot(1, closure(id)))},
		// Variables that are around a call, but not around the function, are not.
		{call(function(call(variable(1), number(2)), 1), function(id, 7)), closure(id, slot(7, num(2)))},
		{call(function(call(variable(1)), 1), function(id)), closure(id)},
		{call(free("list"), id, call(function(id, 1), number(1))), listOf(closure(id), closure(id, slot(1, num(1))))},
		// Variables of functions that were made at the same place.
		{call(function(call(free("list"), call(variable(1), number(2)), call(variable(1), number(3))), 1), function(id, 7)),
			listOf(closure(id, slot(7, num(2))), closure(id, slot(7, num(3))))},
		{call(function(call(function(call(free("list"), call(variable(2), number(5)), call(variable(2), number(6))), 2), function(id, 3)), 1), number(4)),
			listOf(closure(id, slot(1, num(4)), slot(3, num(5))), closure(id, slot(1, num(4)), slot(3, num(6))))},
	} {
		v, end := impl.EvalCore(c.core, 100)
		if end != impl.EvalOk || !sameValues(v, c.want) {
			t.Errorf("the value of %s is %v, %d, want %v", impl.FormatCore(c.core), v, end, c.want)
		}
	}
}

// TestFuel gives programs as many units as they need, and one less.
func TestFuel(t *testing.T) {
	for _, c := range []struct {
		text string
		fuel int
		want string
	}{
		{"1", 1, "1"},
		{"list", 1, "list"},
		{"unknown", 1, "free"},
		{"(quote (a b (c) 4))", 1, "(a b (c) 4)"},
		{"(lambda (x) (x x x))", 1, "#fun1"},
		{"(1)", 2, "call"},
		{"(1 2 3)", 4, "call"},
		{"(1 unknown 3)", 3, "free"},
		{"(+)", 2, "0"},
		{"(+ 1 2)", 4, "3"},
		{"(+ 1 list)", 4, "args"},
		{"(list (list) (list))", 6, "(() ())"},
		{"(if 1 2 3)", 3, "2"},
		{"(if 0 2 3)", 3, "3"},
		{"(if (if 0 1 2) (+ 1 1) unknown)", 8, "2"},
		{"((lambda () 5))", 3, "5"},
		{"((lambda (x) x) 5)", 4, "5"},
		{"((lambda (x) 1))", 2, "args"},
		{"((lambda (x y) (list x y)) 1 (quote (2 3)))", 8, "(1 (2 3))"},
		{"(let ((x 1)) (let ((y 2)) y))", 7, "2"},
		{"(let ((f (lambda (x) (+ x 1)))) (f (f 5)))", 16, "7"},
		{"(let ((f (lambda () unknown))) (f))", 6, "free"},
	} {
		for _, fuel := range []int{c.fuel, c.fuel + 1, c.fuel + 100, impl.MaxFuel} {
			checkEvaluates(t, fuel, []expandCase{{c.text, c.want}})
		}
		for fuel := range c.fuel {
			checkEvaluates(t, fuel, []expandCase{{c.text, "fuel"}})
		}
	}
}

// countdown is a program that uses 10 units for 0, and 9 for each number from n down to 1.
const countdown = "(let ((f (lambda (f n) (if n (f f (+ n 999)) 0)))) (f f %d))"

func TestMuchFuel(t *testing.T) {
	for _, n := range []int{0, 1, 2, 99, 331, 332} {
		text := fmt.Sprintf(countdown, n)
		checkEvaluates(t, 10+9*n, []expandCase{{text, "0"}})
		checkEvaluates(t, 9+9*n, []expandCase{{text, "fuel"}})
	}
	longest := fmt.Sprintf(countdown, 332)
	checkEvaluates(t, 3000, []expandCase{
		{"(list " + longest + ")", "(0)"},
		{"(list " + longest + " 1)", "fuel"},
		{"(" + longest + ")", "call"},
		{"(tail " + longest + ")", "args"},
		{"(tail 1 " + longest + ")", "fuel"},
		{fmt.Sprintf(countdown, 333), "fuel"},
	})
	// As many calls within each other as there can be.
	checkEvaluates(t, 3000, []expandCase{
		{"(let ((f (lambda (f n) (if n (+ 1 (f f (+ n 999))) 0)))) (f f 240))", "240"},
		{"(let ((w (lambda (w) (w w)))) (w w))", "fuel"},
		{"(let ((w (lambda (w) (list (w w))))) (w w))", "fuel"},
		{"(let ((w (lambda (w x) (w w (list x x))))) (w w 1))", "fuel"},
	})
}

func TestEvalRefuses(t *testing.T) {
	fuels := map[int]string{0: "fuel", 1: "5", 2999: "5", 3000: "5", 3001: "bad", -1: "bad", math.MaxInt: "bad", math.MinInt: "bad"}
	for fuel, want := range fuels {
		checkEvaluates(t, fuel, []expandCase{{"5", want}})
	}
	cores := invalidCores(t)
	cores["a program within itself"] = selfHoldingCore()
	cores["data within itself"] = quote(selfHolding())
	for what, c := range cores {
		for fuel := range fuels {
			for _, program := range []impl.Core{c, call(free("list"), c), choice(number(1), number(2), c)} {
				if got := evaluatedCore(t, program, fuel); got != "bad" {
					t.Errorf("with the fuel %d, the value of %s is %s", fuel, what, got)
				}
			}
		}
	}
	for text, c := range coreTexts(t) {
		for _, fuel := range []int{-1, 3001} {
			if got := evaluatedCore(t, c, fuel); got != "bad" {
				t.Errorf("with the fuel %d, the value of %s is %s", fuel, text, got)
			}
		}
	}
}

func TestEvalForm(t *testing.T) {
	for _, c := range []struct {
		text         string
		budget, fuel int
		want         string
	}{
		{"(+ 1 2)", 0, 4, "ok ok 3"},
		{"(+ 1 2)", 60, 3000, "ok ok 3"},
		{"(+ 1 2)", 0, 3, "ok fuel"},
		{"(+ 1 2)", 0, 0, "ok fuel"},
		{"(+ 1 2)", 0, -1, "ok bad"},
		{"(+ 1 2)", 0, 3001, "ok bad"},
		{"(+ 1 2)", 61, 100, "bad bad"},
		{"(+ 1 2)", -1, 100, "bad bad"},
		{"(+ 1 2)", -1, -1, "bad bad"},
		{"x", 0, 100, "ok free"},
		{"(1)", 0, 100, "ok call"},
		{"(head 1)", 0, 100, "ok args"},
		{"()", 0, 100, "forms bad"},
		{"()", 0, 5000, "forms bad"},
		{"if", 0, 100, "use bad"},
		{"(let-syntax ((m (rules ()))) (m))", 1, 100, "rule bad"},
		{"(let-syntax ((m (rules ()))) (m))", 0, 100, "spent bad"},
		{macroOf("((_ a) (+ a a))", "(m (m 3))"), 3, 100, "ok ok 12"},
		{macroOf("((_ a) (+ a a))", "(m (m 3))"), 2, 100, "spent bad"},
		{"(list (lambda (x) 1) (lambda (x) 2) x{1,2})", 1, 100, "many bad"},
		{"(let ((tmp 5) (z 6)) (let-syntax ((swap (rules () ((_ a b) (let ((tmp a)) (list b tmp)))))) (swap tmp z)))", 5, 100, "ok ok (6 5)"},
	} {
		v, end, last := impl.EvalForm(parse(t, c.text), c.budget, c.fuel)
		got := endNames[end] + " " + evalEnds[last]
		if last == impl.EvalOk {
			got += " " + impl.FormatValue(v)
		} else if !isZeroValue(v) {
			t.Errorf("EvalForm of %s returns the value %v", c.text, v)
		}
		if got != c.want {
			t.Errorf("EvalForm of %s with %d and %d = %s, want %s", c.text, c.budget, c.fuel, got, c.want)
		}
	}
	forms := invalidForms()
	forms["a form within itself"] = selfHolding()
	for what, f := range forms {
		for _, fuel := range []int{-1, 0, 100, 3001} {
			if v, end, last := impl.EvalForm(f, 5, fuel); end != impl.ExpandBad || last != impl.EvalBad || !isZeroValue(v) {
				t.Errorf("EvalForm of %s = %v, %d, %d", what, v, end, last)
			}
		}
	}
}

// numbersForm returns data with so many values, a list and numbers.
func numbersForm(values int) impl.Form {
	return listForm(slices.Repeat([]impl.Form{numForm(1)}, values-1)...)
}

func TestValuesThatThereAre(t *testing.T) {
	data := quote(numbersForm(400))
	// listOfData has so many values: itself, data and numbers.
	listOfData := func(values int) impl.Core {
		kids := []impl.Core{free("list")}
		for values--; values >= 400; values -= 400 {
			kids = append(kids, data)
		}
		return call(append(kids, slices.Repeat([]impl.Core{number(1)}, values)...)...)
	}
	// inFunction has the value of c in the Env of its own one.
	inFunction := func(c impl.Core) impl.Core {
		return call(function(function(number(1)), 9), c)
	}
	around := func(name string, c impl.Core) impl.Core {
		return call(free(name), c)
	}
	for i, c := range []struct {
		core impl.Core
		want string
	}{
		{listOfData(2000), "ok"},
		{listOfData(2001), "fuel"},
		{around("list", listOfData(1999)), "ok"},
		{around("list", listOfData(2000)), "fuel"},
		{inFunction(listOfData(1999)), "ok"},
		{inFunction(listOfData(2000)), "fuel"},
		{inFunction(inFunction(listOfData(1998))), "ok"},
		{inFunction(inFunction(listOfData(1999))), "fuel"},
		{around("list", inFunction(listOfData(1998))), "ok"},
		{around("list", inFunction(listOfData(1999))), "fuel"},
		{call(function(function(number(1)), 9, 8), listOfData(1000), listOfData(999)), "ok"},
		{call(function(function(number(1)), 9, 8), listOfData(1000), listOfData(1000)), "fuel"},
		{call(free("list"), listOfData(1000), inFunction(listOfData(998))), "ok"},
		{call(free("list"), listOfData(1000), inFunction(listOfData(999))), "fuel"},
		{call(free("list"), inFunction(listOfData(1000)), inFunction(listOfData(997))), "ok"},
		{call(free("list"), inFunction(listOfData(1000)), inFunction(listOfData(998))), "fuel"},
		{call(function(call(free("list"), variable(1), variable(1)), 1), listOfData(999)), "ok"},
		{call(function(call(free("list"), variable(1), variable(1)), 1), listOfData(1000)), "fuel"},
		{call(function(call(free("list"), variable(1), variable(1)), 1), inFunction(listOfData(998))), "ok"},
		{call(function(call(free("list"), variable(1), variable(1)), 1), inFunction(listOfData(999))), "fuel"},
		// Only the value of the whole program counts.
		{around("head", call(free("list"), number(1), listOfData(2000), listOfData(2001))), "ok"},
		{choice(listOfData(2001), number(1), number(2)), "ok"},
		{around("tail", listOfData(2001)), "ok"},
		{around("tail", listOfData(2400)), "ok"},
		{around("tail", listOfData(2402)), "fuel"},
	} {
		got := evaluatedCore(t, c.core, 3000)
		if (c.want == "ok") != (len(got) > 4 || got == "1") || c.want != "ok" && got != c.want {
			t.Errorf("the evaluation of program %d is %.40s, want %s", i, got, c.want)
		}
	}
	// Data in a function, and its variables, are no values.
	big := function(call(free("list"), data, data, data, data, data, data), upTo(999)...)
	if got := evaluatedCore(t, big, 1); got != "#fun999" {
		t.Errorf("the value of a great function is %s", got)
	}
}

func TestValuesOfManyPlaces(t *testing.T) {
	// The value x is in others so often that its places cannot be counted.
	const double = "(let ((f (lambda (f n x) (if n (f f (+ n 999) %s) %s)))) (f f 200 1))"
	checkEvaluates(t, 3000, []expandCase{
		{fmt.Sprintf(double, "(list x x)", "7"), "7"},
		{fmt.Sprintf(double, "(list x x)", "x"), "fuel"},
		{fmt.Sprintf(double, "(list x x)", "(list 1)"), "(1)"},
		{fmt.Sprintf(double, "(list x x)", "(lambda () 1)"), "fuel"},
		{fmt.Sprintf(double, "((lambda (y z) (lambda () 1)) x x)", "x"), "fuel"},
		{fmt.Sprintf(double, "((lambda (y z) (lambda () 1)) x x)", "8"), "8"},
		{fmt.Sprintf(double, "(list x)", "x"), strings.Repeat("(", 40) + ".." + strings.Repeat(")", 40)},
	})
	// Each of 1000 functions has its own copy of a great program.
	body := call(slices.Repeat([]impl.Core{quote(numbersForm(10))}, 500)...)
	tens := func(id int) impl.Core {
		return call(append([]impl.Core{free("list")}, slices.Repeat([]impl.Core{variable(id)}, 10)...)...)
	}
	hundreds := call(function(call(function(tens(2), 2), tens(1)), 1), function(body))
	v, end := impl.EvalCore(call(function(tens(3), 3), hundreds), 3000)
	if end != impl.EvalOk || len(v.Items) != 10 || impl.CoreSize(v.Items[9].Items[9].Items[9].Fun) != 502 {
		t.Errorf("the evaluation of a thousand functions ends with %d", end)
	}
}

func TestEvaluatingKeepsNoState(t *testing.T) {
	c, _ := impl.ExpandForm(parse(t, "(let ((f (lambda (x) (list x)))) (list (f 1) (f (f 2))))"), 0)
	for range 20 {
		if got := evaluatedCore(t, c, 40); got != "((1) ((2)))" {
			t.Fatalf("the value is %s", got)
		}
		evaluatedCore(t, c, 5)
		evaluated(t, "(let ((list +)) (list 1 2))", 40)
		evaluated(t, "unknown", 40)
	}
}
