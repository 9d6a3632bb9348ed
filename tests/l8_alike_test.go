package tests

import (
	"fmt"
	"math/rand"
	"slices"
	"testing"

	"loop.example/macroexpander/impl"
)

// machine evaluates a program without recursion: what is left to be done is on a stack, and so are the values for it.
type machine struct {
	left   []task
	values []impl.Value
	used   int
}

// task is to evaluate a program, to choose one of the branches of a choice, or to call with so many values.
type task struct {
	kind int
	core impl.Core
	env  []impl.Slot
}

const (
	taskEval = iota
	taskChoose
	taskCall
)

// ranCore returns the value of c, the end, and how much fuel has been used.
func ranCore(c impl.Core, fuel int) (impl.Value, int, int) {
	m := &machine{left: []task{{taskEval, c, nil}}}
	for len(m.left) > 0 {
		next := m.left[len(m.left)-1]
		m.left = m.left[:len(m.left)-1]
		if next.kind == taskEval {
			if m.used == fuel {
				return impl.Value{}, impl.EvalFuel, m.used
			}
			m.used++
		}
		if end := m.do(next); end != impl.EvalOk {
			return impl.Value{}, end, m.used
		}
	}
	v := m.values[0]
	if most := 2000; !countsAtMost(v, &most) {
		return impl.Value{}, impl.EvalFuel, m.used
	}
	return v, impl.EvalOk, m.used
}

func countsAtMost(v impl.Value, most *int) bool {
	*most--
	parts := slices.Clone(v.Items)
	for _, s := range v.Env {
		parts = append(parts, s.Val)
	}
	for _, part := range parts {
		if *most < 0 || !countsAtMost(part, most) {
			return false
		}
	}
	return *most >= 0
}

// taken takes so many values off the stack, and returns them in the order in which they were put there.
func (m *machine) taken(n int) []impl.Value {
	from := len(m.values) - n
	values := slices.Clone(m.values[from:])
	m.values = m.values[:from]
	return values
}

func (m *machine) put(v impl.Value) int {
	m.values = append(m.values, v)
	return impl.EvalOk
}

func (m *machine) do(next task) int {
	switch next.kind {
	case taskChoose:
		branch := next.core.Kids[1]
		if sameValues(m.taken(1)[0], num(0)) {
			branch = next.core.Kids[2]
		}
		m.left = append(m.left, task{taskEval, branch, next.env})
		return impl.EvalOk
	case taskCall:
		values := m.taken(len(next.core.Kids))
		return m.call(values[0], values[1:])
	}
	return m.eval(next.core, next.env)
}

func (m *machine) eval(c impl.Core, env []impl.Slot) int {
	switch c.Kind {
	case impl.CoreNum:
		return m.put(num(c.N))
	case impl.CoreQuote:
		v, _ := impl.DataValue(c.Data)
		return m.put(v)
	case impl.CoreFree:
		if !slices.Contains([]string{"list", "+", "<", "=", "head", "tail"}, c.Name) {
			return impl.EvalFree
		}
		return m.put(prim(c.Name))
	case impl.CoreVar:
		for _, s := range slices.Backward(env) {
			if s.Id == c.Id {
				return m.put(s.Val)
			}
		}
	case impl.CoreFun:
		return m.put(closure(c, slices.Clone(env)...))
	case impl.CoreIf:
		m.left = append(m.left, task{taskChoose, c, env}, task{taskEval, c.Kids[0], env})
	case impl.CoreCall:
		m.left = append(m.left, task{taskCall, c, env})
		for _, kid := range slices.Backward(c.Kids) {
			m.left = append(m.left, task{taskEval, kid, env})
		}
	}
	return impl.EvalOk
}

func (m *machine) call(f impl.Value, given []impl.Value) int {
	if f.Kind == impl.ValPrim {
		v, ok := applied(f.Name, given)
		if !ok {
			return impl.EvalArgs
		}
		return m.put(v)
	}
	if f.Kind != impl.ValFun {
		return impl.EvalCall
	}
	if len(given) != len(f.Fun.Ids) {
		return impl.EvalArgs
	}
	env := slices.Clone(f.Env)
	for i, v := range given {
		env = append(env, slot(f.Fun.Ids[i], v))
	}
	m.left = append(m.left, task{taskEval, f.Fun.Kids[0], env})
	return impl.EvalOk
}

// applied returns the value of a built-in function, and whether it takes such arguments.
func applied(name string, given []impl.Value) (impl.Value, bool) {
	var numbers []int
	for _, v := range given {
		if v.Kind == impl.ValNum {
			numbers = append(numbers, v.N)
		}
	}
	holds, both := 0, len(numbers) == 2 && len(given) == 2
	switch name {
	case "list":
		return listOf(given...), true
	case "+":
		total := 0
		for _, n := range numbers {
			total = (total + n) % 1000
		}
		return num(total), len(numbers) == len(given)
	case "<", "=":
		if both && (name == "<" && numbers[0] < numbers[1] || name == "=" && numbers[0] == numbers[1]) {
			holds = 1
		}
		return num(holds), both
	}
	if len(given) != 1 || given[0].Kind != impl.ValList || len(given[0].Items) == 0 {
		return impl.Value{}, false
	}
	if name == "head" {
		return given[0].Items[0], true
	}
	return listOf(given[0].Items[1:]...), true
}

// checkRan compares an evaluation with that of a machine, and returns how both end.
func checkRan(t *testing.T, c impl.Core, fuel int) int {
	t.Helper()
	v, end := impl.EvalCore(c, fuel)
	w, endOfRun, _ := ranCore(c, fuel)
	if end != endOfRun || !sameValues(v, w) {
		t.Fatalf("with the fuel %d, the value of %s is %v, %d, and that of a machine %v, %d", fuel, impl.FormatCore(c), v, end, w, endOfRun)
	}
	return end
}

// checkFuel compares evaluations with as much fuel as a program uses, with less, and with more.
func checkFuel(t *testing.T, c impl.Core, most int) int {
	t.Helper()
	end := checkRan(t, c, most)
	_, _, used := ranCore(c, most)
	for _, fuel := range []int{used, used - 1, used / 2} {
		if fuel >= 0 {
			checkRan(t, c, fuel)
		}
	}
	return end
}

func TestAllShortProgramsAreEvaluated(t *testing.T) {
	ends := map[int]int{}
	for nodes, atoms := range map[int][]impl.Core{
		4: {variable(1), variable(2), number(0), number(2), free("list"), free("+"), free("<"), free("="), free("head"), free("tail"),
			free("x"), quote(parse(t, "(a 1)"))},
		5: {variable(1), variable(2), number(0), free("list"), free("tail"), quote(listForm())},
		6: {variable(1), variable(2), free("list")},
	} {
		for _, c := range coresOfSize(nodes, atoms, [][]int{nil, {1}, {2}, {2, 1}}) {
			if impl.CoreValid(c) {
				ends[checkFuel(t, c, 30)]++
			}
		}
	}
	for _, end := range []int{impl.EvalOk, impl.EvalFree, impl.EvalCall, impl.EvalArgs} {
		if ends[end] < 100 {
			t.Errorf("only %d programs end with %s", ends[end], evalEnds[end])
		}
	}
}

// coreMaker makes core programs of which most have a value.
type coreMaker struct {
	*rand.Rand
	lastId int
}

// core returns a program of at most so many levels, given the variables around it.
func (m *coreMaker) core(levels int, around []int) impl.Core {
	if levels == 0 {
		return m.atom(around)
	}
	inner := func() impl.Core { return m.core(levels-1, around) }
	addend := func() impl.Core {
		if m.Intn(4) == 0 {
			return inner()
		}
		return number(m.Intn(1000))
	}
	switch m.Intn(16) {
	case 0:
		return m.atom(around)
	case 1, 2:
		return choice(inner(), inner(), inner())
	case 3, 4:
		return call(m.all(free("list"), m.Intn(4), inner)...)
	case 5:
		return call(m.all(free("+"), m.Intn(4), addend)...)
	case 6:
		return call(free(m.oneOf("<", "=")), addend(), addend())
	case 7:
		return call(free(m.oneOf("head", "tail")), call(m.all(free("list"), m.Intn(3), inner)...))
	case 8:
		return m.function(levels, around, m.Intn(3))
	case 9:
		return call(m.all(m.atom(around), m.Intn(3), inner)...)
	case 10:
		// The value is a function, with variables around it.
		n := m.Intn(3)
		return call(m.all(m.withBody(n, around, func(inside []int) impl.Core { return m.function(levels-1, inside, 1) }), n, inner)...)
	}
	variables := m.Intn(4)
	return call(m.all(m.function(levels, around, variables), variables, inner)...)
}

func (m *coreMaker) oneOf(names ...string) string {
	return names[m.Intn(len(names))]
}

func (m *coreMaker) all(first impl.Core, n int, other func() impl.Core) []impl.Core {
	kids := []impl.Core{first}
	for range n {
		kids = append(kids, other())
	}
	return kids
}

func (m *coreMaker) function(levels int, around []int, variables int) impl.Core {
	return m.withBody(variables, around, func(inside []int) impl.Core { return m.core(max(levels-1, 0), inside) })
}

func (m *coreMaker) withBody(variables int, around []int, body func(inside []int) impl.Core) impl.Core {
	var ids []int
	for range variables {
		m.lastId++
		ids = append(ids, m.lastId)
	}
	return function(body(append(slices.Clone(around), ids...)), ids...)
}

func (m *coreMaker) atom(around []int) impl.Core {
	if len(around) > 0 && m.Intn(3) > 0 {
		return variable(around[m.Intn(len(around))])
	}
	switch m.Intn(10) {
	case 0:
		return quote(listForm(nameForm("a"), listForm(numForm(m.Intn(3)))))
	case 1:
		return free(m.oneOf("list", "+", "tail", "q"))
	case 2:
		return number(999)
	}
	return number(m.Intn(4))
}

// withOtherIds returns c with other numbers for its variables, which can be those of functions beside each other.
func (m *coreMaker) withOtherIds(c impl.Core, now map[int]int) impl.Core {
	inside := map[int]int{}
	taken := map[int]bool{}
	for id, other := range now {
		inside[id], taken[other] = other, true
	}
	var ids []int
	for _, id := range c.Ids {
		other := 1 + m.Intn(40)
		for taken[other] {
			other = 1 + m.Intn(40)
		}
		inside[id], taken[other] = other, true
		ids = append(ids, other)
	}
	var kids []impl.Core
	for _, kid := range c.Kids {
		kids = append(kids, m.withOtherIds(kid, inside))
	}
	c.Id, c.Ids, c.Kids = now[c.Id], ids, kids
	return c
}

// checkAlikeValues compares the evaluations of two programs that are alike.
func checkAlikeValues(t *testing.T, c impl.Core, d impl.Core, fuel int) {
	t.Helper()
	v, end := impl.EvalCore(c, fuel)
	w, endOfOther := impl.EvalCore(d, fuel)
	if !impl.CoreAlike(c, d) || end != endOfOther || !impl.ValueSame(v, w) || impl.FormatValue(v) != impl.FormatValue(w) {
		t.Fatalf("with the fuel %d, the value of %s is %s, %d, and that of %s %s, %d", fuel, impl.FormatCore(c), impl.FormatValue(v), end,
			impl.FormatCore(d), impl.FormatValue(w), endOfOther)
	}
}

// TestAlikeProgramsHaveTheSameValue makes programs, and others of them with other variables.
func TestAlikeProgramsHaveTheSameValue(t *testing.T) {
	m := &coreMaker{rand.New(rand.NewSource(8)), 0}
	ends := map[int]int{}
	functions := 0
	for range 6000 {
		m.lastId = 0
		c := m.core(5, nil)
		if !impl.CoreValid(c) {
			continue
		}
		ends[checkFuel(t, c, 300)]++
		if v, _ := impl.EvalCore(c, 300); v.Kind == impl.ValFun && len(v.Env) > 0 {
			functions++
		}
		numbered, _ := impl.NumberCore(c)
		for _, d := range []impl.Core{numbered, m.withOtherIds(c, nil), m.withOtherIds(c, nil)} {
			for _, fuel := range []int{m.Intn(20), 300} {
				checkAlikeValues(t, c, d, fuel)
			}
			checkRan(t, d, 300)
		}
	}
	if ends[impl.EvalOk] < 2000 || functions < 200 || ends[impl.EvalFree] < 100 || ends[impl.EvalCall] < 100 || ends[impl.EvalArgs] < 100 {
		t.Errorf("too few programs end in each way, or with functions: %v, %d", ends, functions)
	}
}

// TestProgramsWithLoopsAreEvaluated is for programs that use much fuel.
func TestProgramsWithLoopsAreEvaluated(t *testing.T) {
	for _, step := range []string{
		"0", "(f f (+ n 999) (list n x))", "(f f (+ n 999) (lambda () (list n x)))", "(list (f f (+ n 999) n) n (f f (+ n 998) x))",
		"(if (< n 500) (f f (+ n 999) (+ x n)) (f f (+ n 1) x))", "(tail (list n (f f (+ n 999) x) (list x x)))", "(f f (+ n 999) (list x x))",
		"(f f (+ n 999) (lambda (y) (f y n)))", "(f f n x)", "(let ((g f)) (let ((f (lambda (x) (g g (+ n 999) x)))) (f x)))",
	} {
		for _, last := range []string{"x", "f", "n", "(list x f)", "(head x)", "(x 1)"} {
			for n := range 9 {
				text := fmt.Sprintf("(let ((f (lambda (f n x) (if n %s %s)))) (f f %d 7))", step, last, n)
				c, end := impl.ExpandForm(parse(t, text), 0)
				if end != impl.ExpandOk {
					t.Fatalf("%s ends with %s", text, endNames[end])
				}
				checkFuel(t, c, 3000)
				numbered, _ := impl.NumberCore(c)
				checkAlikeValues(t, c, numbered, 3000)
			}
		}
	}
}

// TestNamesDoNotChangeValues evaluates programs with macros that differ in the names of their variables.
func TestNamesDoNotChangeValues(t *testing.T) {
	const or = "(or (rules () ((_) 0) ((_ p) p) ((_ p q ...) (let ((T p)) (if T T (or q ...))))))"
	const swap = "(swap (rules () ((_ p q) (let ((T p)) (list q T)))))"
	for _, c := range []nameChoice{
		{text: "(let-syntax (" + or + ") (let ((A 0) (B 8)) (or A B 9)))"},
		{text: "(let-syntax (" + swap + ") (let ((A 5) (B 6)) (swap A (swap B A))))"},
		{text: "(let-syntax (" + or + " " + swap + ") (let ((A 0) (B (quote (x)))) (or A (swap B (or A (swap A B))))))"},
		{text: "(let-syntax (" + or + ") (let ((A (lambda (B) (or 0 B 2)))) (let ((B 0)) (list (A B) (A 3) (or B (A B))))))"},
	} {
		var first impl.Value
		for i, names := range [][3]string{{"t", "a", "b"}, {"a", "a", "b"}, {"b", "a", "b"}, {"x", "x", "y"}, {"y", "x", "y"}, {"z", "b", "a"}, {"a", "t", "z"}} {
			text, _ := c.named(map[rune]string{'T': names[0], 'A': names[1], 'B': names[2]})
			v, end, last := impl.EvalForm(parse(t, text), 20, 500)
			if end != impl.ExpandOk || last != impl.EvalOk {
				t.Fatalf("%s ends with %s, %s", text, endNames[end], evalEnds[last])
			}
			if i == 0 {
				first = v
			}
			if !impl.ValueSame(v, first) {
				t.Errorf("the value of %s is %s, want %s", text, impl.FormatValue(v), impl.FormatValue(first))
			}
		}
	}
}
