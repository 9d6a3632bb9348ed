package tests

import (
	"fmt"
	"math"
	"strings"
	"testing"

	"loop.example/macroexpander/impl"
)

func TestDataValue(t *testing.T) {
	for text, want := range map[string]impl.Value{
		"0":                 num(0),
		"999":               num(999),
		"x":                 sym("x"),
		"x{1,99}":           sym("x"),
		"...":               sym("..."),
		"_":                 sym("_"),
		"list":              sym("list"),
		"()":                listOf(),
		"(())":              listOf(listOf()),
		"(a 1)":             listOf(sym("a"), num(1)),
		"(quote x)":         listOf(sym("quote"), sym("x")),
		"(a{5} (b 2 ()) 3)": listOf(sym("a"), listOf(sym("b"), num(2), listOf()), num(3)),
	} {
		v, ok := impl.DataValue(parse(t, text))
		if !ok || !sameValues(v, want) {
			t.Errorf("DataValue of %s = %v, %v", text, v, ok)
		}
	}
	for _, f := range []impl.Form{wide(400), nested(40), numForm(999), nameForm("abcdefghijkl", scopesUpTo(24)...)} {
		v, ok := impl.DataValue(f)
		stripped := impl.FormatForm(impl.StripForm(f))
		if got := impl.FormatValue(v); !ok || got != stripped {
			t.Errorf("DataValue of %s has the text %s", stripped, got)
		}
	}
	forms := invalidForms()
	forms["a form within itself"] = selfHolding()
	for what, f := range forms {
		for _, g := range []impl.Form{f, listForm(nameForm("x"), f)} {
			if v, ok := impl.DataValue(g); ok || !isZeroValue(v) {
				t.Errorf("DataValue of %s = %v, %v", what, v, ok)
			}
		}
	}
}

// nestedValue returns a value in so many lists.
func nestedValue(around int, v impl.Value) impl.Value {
	for range around {
		v = listOf(v)
	}
	return v
}

func inLists(around int, text string) string {
	return strings.Repeat("(", around) + text + strings.Repeat(")", around)
}

// strangeKinds are those of no value.
var strangeKinds = []int{0, 6, -1, math.MaxInt, math.MinInt}

func TestFormatValue(t *testing.T) {
	f := function(variable(1), 1)
	for _, c := range []struct {
		v    impl.Value
		want string
	}{
		{num(0), "0"},
		{num(999), "999"},
		{num(1000), "1000"},
		{num(-1), "-1"},
		{num(math.MaxInt), "9223372036854775807"},
		{num(math.MinInt), "-9223372036854775808"},
		{sym("x"), "x"},
		{sym(""), ""},
		{sym("A b\n\xff"), "A b\n\xff"},
		{prim("list"), "list"},
		{prim("other"), "other"},
		{listOf(), "()"},
		{listOf(num(1)), "(1)"},
		{listOf(num(1), sym("a"), listOf(), prim("+"), closure(f)), "(1 a () + #fun1)"},
		{listOf(sym(""), sym("")), "( )"},
		{closure(function(number(1))), "#fun0"},
		{closure(function(number(1), 4, 7, 5)), "#fun3"},
		{closure(function(number(1), upTo(999)...)), "#fun999"},
		{closure(f, slot(7, num(3)), slot(8, listOf(num(3)))), "#fun1"},
		// What is no value of a program.
		{closure(impl.Core{}), "#fun0"},
		{closure(impl.Core{Ids: []int{-1, -1}}), "#fun2"},
		{closure(selfHoldingCore()), "#fun0"},
		{impl.Value{Kind: impl.ValNum, N: 5, Name: "x", Items: []impl.Value{num(1)}, Fun: f}, "5"},
		{impl.Value{Kind: impl.ValName, N: 5, Name: "x", Items: []impl.Value{num(1)}, Fun: f}, "x"},
		{impl.Value{Kind: impl.ValPrim, N: 5, Name: "x", Items: []impl.Value{num(1)}, Fun: f}, "x"},
		{impl.Value{Kind: impl.ValFun, N: 5, Name: "x", Items: []impl.Value{num(1)}, Fun: f}, "#fun1"},
		{impl.Value{Kind: impl.ValList, N: 5, Name: "x", Items: []impl.Value{num(1)}, Fun: f}, "(1)"},
		// Values in others.
		{nestedValue(39, num(7)), inLists(39, "7")},
		{nestedValue(40, num(7)), inLists(40, "..")},
		{nestedValue(41, num(7)), inLists(40, "..")},
		{nestedValue(39, listOf()), inLists(39, "()")},
		{nestedValue(40, listOf()), inLists(40, "..")},
		{nestedValue(40, impl.Value{}), inLists(40, "..")},
		{nestedValue(40, closure(f)), inLists(40, "..")},
		{nestedValue(39, listOf(num(1), sym("x"), listOf())), inLists(39, "(.. .. ..)")},
		{listOf(num(1), nestedValue(39, num(2)), num(3)), "(1 " + inLists(39, "..") + " 3)"},
		{nestedValue(200000, num(7)), inLists(40, "..")},
	} {
		if got := impl.FormatValue(c.v); got != c.want {
			t.Errorf("FormatValue = %.200q, want %.200q", got, c.want)
		}
	}
	for _, kind := range strangeKinds {
		v := impl.Value{Kind: kind, N: 5, Name: "x", Items: []impl.Value{num(1)}, Fun: f}
		if got := impl.FormatValue(listOf(v, num(1))); got != "(? 1)" || impl.FormatValue(v) != "?" {
			t.Errorf("FormatValue of the kind %d = %s", kind, got)
		}
	}
}

// selfHoldingValue returns a value that is one of its own Items.
func selfHoldingValue() impl.Value {
	items := []impl.Value{listOf(), num(1)}
	items[0].Items = items
	return listOf(items...)
}

func TestValuesWithinThemselves(t *testing.T) {
	v := selfHoldingValue()
	if got := impl.FormatValue(v); got != strings.Repeat("(", 40)+".. .."+strings.Repeat(") 1", 39)+")" {
		t.Errorf("FormatValue of a value within itself = %s", got)
	}
	if impl.ValueSame(v, v) || impl.ValueSame(v, num(1)) || impl.ValueSame(listOf(num(1), num(1)), v) {
		t.Error("ValueSame is true for a value within itself")
	}
	// A value that is twice in another one, or in its own Env, is not one of its Items.
	items := []impl.Value{num(1), listOf()}
	if twice := listOf(listOf(items...), listOf(items...)); !impl.ValueSame(twice, twice) {
		t.Error("ValueSame is false for a value with another one twice")
	}
	env := []impl.Slot{slot(1, num(1))}
	env[0].Val = closure(function(number(1)), env...)
	env[0].Val.Env = env
	if w := closure(function(number(1)), env...); !impl.ValueSame(w, w) || impl.FormatValue(w) != "#fun0" {
		t.Error("ValueSame is false for a function that is a variable around itself")
	}
}

// differentValues are values of which no two are the same.
func differentValues() []impl.Value {
	values := []impl.Value{
		num(0), num(1), num(-1), num(999),
		sym(""), sym("x"), sym("y"), sym("list"), sym("1"),
		prim(""), prim("x"), prim("list"), prim("+"),
		listOf(), listOf(num(1)), listOf(num(2)), listOf(num(1), num(2)), listOf(num(2), num(1)), listOf(listOf()), listOf(listOf(num(1))),
		listOf(sym("x")), listOf(prim("x")), listOf(sym("x y")), listOf(sym("x"), sym("y")), listOf(num(1), listOf(num(2))),
		listOf(listOf(num(1)), num(2)),
		closure(function(number(1))), closure(function(number(1), 1)), closure(function(number(1), 1, 2)),
		listOf(closure(function(number(1)))), listOf(closure(function(number(1), 1))), listOf(impl.Value{}),
		{Kind: impl.ValNum, Name: "x"}, {Kind: impl.ValNum, Items: []impl.Value{num(1)}}, {Kind: impl.ValNum, Items: []impl.Value{num(2)}},
		{Kind: impl.ValName, N: 1}, {Kind: impl.ValName, Items: []impl.Value{{}}},
		{Kind: impl.ValList, N: 1}, {Kind: impl.ValList, Name: "x"},
		{Kind: impl.ValFun, N: 1}, {Kind: impl.ValFun, Name: "x"}, {Kind: impl.ValFun, Items: []impl.Value{{}}},
		{Kind: 6, N: 1}, {Kind: 6, Name: "x"}, {Kind: 6, Items: []impl.Value{closure(function(number(1)))}},
		{Kind: 6, Items: []impl.Value{closure(function(number(1), 1))}},
		// The texts of these are equal.
		nestedValue(40, num(1)), nestedValue(40, num(2)), nestedValue(41, num(2)), nestedValue(50, closure(function(number(1)))),
		nestedValue(50, closure(function(number(1), 1))), nestedValue(50, listOf()), nestedValue(50, listOf(num(1))),
	}
	for _, kind := range strangeKinds {
		values = append(values, impl.Value{Kind: kind})
	}
	return values
}

func TestValueSame(t *testing.T) {
	values, others := differentValues(), differentValues()
	for i, a := range values {
		for j, b := range others {
			if got := impl.ValueSame(a, b); got != (i == j) {
				t.Errorf("ValueSame of values %d and %d, %.60v and %.60v, is %v", i, j, a, b, got)
			}
		}
	}
	// Of functions, only the number of variables counts, and of others nothing of Fun and Env.
	f, g := function(variable(1), 1), function(call(number(2)), 7)
	for _, pair := range [][2]impl.Value{
		{closure(f), closure(g)},
		{closure(f), closure(f, slot(3, num(1)))},
		{closure(f, slot(3, num(1))), closure(g, slot(3, num(2)), slot(4, num(2)))},
		{closure(f), closure(impl.Core{Ids: []int{-5}, N: 3})},
		{closure(impl.Core{}), closure(selfHoldingCore())},
		{listOf(closure(f)), listOf(closure(g))},
		{{Kind: impl.ValNum, Fun: f}, {Kind: impl.ValNum, Env: []impl.Slot{slot(1, num(1))}}},
		{{Kind: impl.ValList, Fun: f}, listOf()},
		{{Kind: 9, Fun: f}, {Kind: 9}},
		{listOf(), {Kind: impl.ValList, Items: []impl.Value{}}},
	} {
		if !impl.ValueSame(pair[0], pair[1]) || !impl.ValueSame(pair[1], pair[0]) {
			t.Errorf("ValueSame of %v and %v is false", pair[0], pair[1])
		}
	}
	const deep = 200000
	if v := nestedValue(deep, num(1)); !impl.ValueSame(v, nestedValue(deep, num(1))) || impl.ValueSame(v, nestedValue(deep, num(2))) ||
		impl.ValueSame(v, nestedValue(deep+1, num(1))) {
		t.Error("ValueSame is wrong for deep values")
	}
}

// memoryOfValue returns a text of all memory of a value, with its unused capacity.
func memoryOfValue(v impl.Value) string {
	text := fmt.Sprint(v.Kind, v.N, v.Name, len(v.Items), len(v.Env), memoryOfCore(v.Fun))
	for _, item := range v.Items[:cap(v.Items)] {
		text += "(" + memoryOfValue(item) + ")"
	}
	for _, s := range v.Env[:cap(v.Env)] {
		text += fmt.Sprint("[", s.Id, memoryOfValue(s.Val), "]")
	}
	return text
}

// spoilValue overwrites all memory that v has, with its unused capacity.
func spoilValue(v impl.Value) {
	spoilCore(v.Fun)
	items := v.Items[:cap(v.Items)]
	for i := range items {
		spoilValue(items[i])
		items[i] = num(777)
	}
	env := v.Env[:cap(v.Env)]
	for i := range env {
		spoilValue(env[i].Val)
		env[i] = slot(77, num(777))
	}
}

// checkValuesApart spoils all parts of v in order, which must leave those behind them as they are.
func checkValuesApart(t *testing.T, v impl.Value) {
	t.Helper()
	checkKidsApart(t, v.Fun)
	parts := v.Items
	for _, s := range v.Env {
		parts = append(parts[:len(parts):len(parts)], s.Val)
	}
	for i, part := range parts {
		later := memoryOfValue(listOf(parts[i+1:]...))
		checkValuesApart(t, part)
		spoilCore(part.Fun)
		spoilValue(part)
		if memoryOfValue(listOf(parts[i+1:]...)) != later {
			t.Errorf("parts of a value share memory, behind its part %d", i)
		}
	}
}

func TestValuesShareNoMemory(t *testing.T) {
	for _, text := range []string{
		"(let ((x (quote (a (b) 3)))) (list x x (tail x) (tail x) (head (tail x)) (list x)))",
		"(let ((x (list 1 2 3)) (y (list))) (list x (tail x) (tail (tail (tail x))) y y))",
		"(let ((x (list 1 2)) (f (lambda (y z) (quote (c (d)))))) (list f f (lambda () f) (lambda () x) x))",
		"(let ((m (lambda (y) (lambda (z) (list y (quote (q)) z))))) (list (m 1) (m (list 2)) (m m)))",
		"(lambda (x y) (lambda (z) (quote (a (b)))))",
	} {
		core, _ := impl.ExpandForm(parse(t, text), 0)
		c := roomyCore(core)
		before := memoryOfCore(c)
		v, end := impl.EvalCore(c, 200)
		again, _ := impl.EvalCore(c, 200)
		want := memoryOfValue(again)
		if end != impl.EvalOk || memoryOfCore(c) != before || !sameValues(v, again) {
			t.Fatalf("the evaluation of %s ends with %d, or changes its argument", text, end)
		}
		checkValuesApart(t, v)
		spoilValue(v)
		if memoryOfCore(c) != before || memoryOfValue(again) != want {
			t.Errorf("the value of %s shares memory with the program or another value", text)
		}
	}
	f := roomyCopy(parse(t, "(a{1} (b{2}) 3 ())"))
	before := memoryOfForm(f)
	v, _ := impl.DataValue(f)
	again, _ := impl.DataValue(f)
	want := memoryOfValue(again)
	if !sameValues(v, listOf(sym("a"), listOf(sym("b")), num(3), listOf())) {
		t.Errorf("DataValue of a form with memory beyond its length = %v", v)
	}
	checkValuesApart(t, v)
	spoilValue(v)
	if memoryOfForm(f) != before || memoryOfValue(again) != want {
		t.Error("DataValue shares memory with its argument or another result")
	}
}

// roomyValue returns v where every slice has unused capacity, in which there are further values.
func roomyValue(v impl.Value) impl.Value {
	var items []impl.Value
	for _, item := range v.Items {
		items = append(items, roomyValue(item))
	}
	var env []impl.Slot
	for _, s := range v.Env {
		env = append(env, slot(s.Id, roomyValue(s.Val)))
	}
	items, env = append(items, num(8), sym("beyond")), append(env, slot(9, num(9)))
	v.Items, v.Env, v.Fun = items[:len(v.Items)], env[:len(v.Env)], roomyCore(v.Fun)
	return v
}

func TestValuesAreNotChanged(t *testing.T) {
	v := roomyValue(listOf(num(1), listOf(), closure(function(variable(1), 1, 2), slot(3, listOf(num(2)))), prim("+")))
	before := memoryOfValue(v)
	plain := listOf(num(1), listOf(), closure(function(number(1), 4, 5)), prim("+"))
	if got := impl.FormatValue(v); got != "(1 () #fun2 +)" || !impl.ValueSame(v, v) || !impl.ValueSame(v, plain) || !impl.ValueSame(plain, v) {
		t.Errorf("with memory beyond the lengths, FormatValue = %s, or ValueSame is false", got)
	}
	if memoryOfValue(v) != before {
		t.Error("FormatValue or ValueSame changes its argument")
	}
}
