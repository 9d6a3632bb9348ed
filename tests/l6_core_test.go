package tests

import (
	"fmt"
	"math"
	"slices"
	"strconv"
	"strings"
	"testing"

	"loop.example/macroexpander/impl"
)

func variable(id int) impl.Core {
	return impl.Core{Kind: impl.CoreVar, Id: id}
}

func free(name string) impl.Core {
	return impl.Core{Kind: impl.CoreFree, Name: name}
}

func number(n int) impl.Core {
	return impl.Core{Kind: impl.CoreNum, N: n}
}

func quote(data impl.Form) impl.Core {
	return impl.Core{Kind: impl.CoreQuote, Data: data}
}

func function(body impl.Core, ids ...int) impl.Core {
	return impl.Core{Kind: impl.CoreFun, Ids: ids, Kids: []impl.Core{body}}
}

func call(kids ...impl.Core) impl.Core {
	return impl.Core{Kind: impl.CoreCall, Kids: kids}
}

func choice(kids ...impl.Core) impl.Core {
	return impl.Core{Kind: impl.CoreIf, Kids: kids}
}

// upTo returns the numbers from 1 to n, which are also more than a form may have as scopes.
func upTo(n int) []int {
	return scopesUpTo(n)
}

// coreChain returns a core program of so many functions without variables, each around the next one, and a free name.
func coreChain(functions int) impl.Core {
	c := free("x")
	for range functions {
		c = function(c)
	}
	return c
}

// wideCall returns a call with so many nodes, itself and free names.
func wideCall(nodes int) impl.Core {
	return call(slices.Repeat([]impl.Core{free("x")}, nodes-1)...)
}

// selfHoldingCore returns a core program that is one of its own Kids.
func selfHoldingCore() impl.Core {
	kids := []impl.Core{free("x"), call(free("y")), free("z")}
	kids[1].Kids = kids
	return call(kids...)
}

func isZeroCore(c impl.Core) bool {
	return c.Kind == 0 && c.Id == 0 && c.Name == "" && c.N == 0 && len(c.Ids) == 0 && isZero(c.Data) && len(c.Kids) == 0
}

// coreTexts tells the texts of valid core programs.
func coreTexts(t *testing.T) map[string]impl.Core {
	return map[string]impl.Core{
		"x":                               free("x"),
		"...":                             free("..."),
		"_":                               free("_"),
		"let-syntax":                      free("let-syntax"),
		"abcdefghijkl":                    free("abcdefghijkl"),
		"0":                               number(0),
		"42":                              number(42),
		"999":                             number(999),
		"'x":                              quote(nameForm("x")),
		"'...":                            quote(nameForm("...")),
		"'0":                              quote(numForm(0)),
		"'()":                             quote(listForm()),
		"'(a (b 1) () _)":                 quote(parse(t, "(a (b 1) () _)")),
		"'(quote x)":                      quote(parse(t, "(quote x)")),
		"(fun () q)":                      function(free("q")),
		"(fun () (fun () 1))":             function(function(number(1))),
		"(fun (#7) (+ #7 '(a 1)))":        function(call(free("+"), variable(7), quote(parse(t, "(a 1)"))), 7),
		"(fun (#1) #1)":                   function(variable(1), 1),
		"(fun (#999) #999)":               function(variable(999), 999),
		"(fun (#3 #1 #2) #1)":             function(variable(1), 3, 1, 2),
		"(fun (#1) (fun (#2) #1))":        function(function(variable(1), 2), 1),
		"(fun (#2) (fun (#1) #1))":        function(function(variable(1), 1), 2),
		"(fun (#1) (fun () #1))":          function(function(variable(1)), 1),
		"(f)":                             call(free("f")),
		"(1)":                             call(number(1)),
		"((f))":                           call(call(free("f"))),
		"(f x 1 'y)":                      call(free("f"), free("x"), number(1), quote(nameForm("y"))),
		"((fun (#1) #1) 5)":               call(function(variable(1), 1), number(5)),
		"((fun (#1) #1) (fun (#1) #1))":   call(function(variable(1), 1), function(variable(1), 1)),
		"((fun (#1) #1) (fun (#1 #2) 1))": call(function(variable(1), 1), function(number(1), 1, 2)),
		"(if p 1 (fun () q))":             choice(free("p"), number(1), function(free("q"))),
		"(if (if 0 1 2) (fun (#1) #1) (fun (#1) #1))": choice(
			choice(number(0), number(1), number(2)), function(variable(1), 1), function(variable(1), 1)),
		"(fun (#1) (if #1 #1 (#1 #1)))": function(choice(variable(1), variable(1), call(variable(1), variable(1))), 1),
	}
}

// invalidCores is without programs that hold themselves, for which nearly nothing is true.
func invalidCores(t *testing.T) map[string]impl.Core {
	cores := map[string]impl.Core{
		"the zero value":                   {},
		"kind 8":                           {Kind: 8},
		"kind 8 with Kids":                 {Kind: 8, Kids: []impl.Core{free("x")}},
		"kind 8 with three Kids":           {Kind: 8, Kids: []impl.Core{free("x"), free("x"), free("x")}},
		"kind 0 with three Kids":           {Kids: []impl.Core{free("x"), free("x"), free("x")}},
		"kind -1":                          {Kind: -1},
		"a variable that nothing binds":    variable(1),
		"a variable beside its function":   call(function(variable(1), 1), variable(1)),
		"a variable in front of it":        call(variable(1), function(variable(1), 1)),
		"a variable of a function beside":  call(function(number(1), 1), function(variable(1), 2)),
		"a variable of a function within":  function(call(function(number(1), 2), variable(2)), 1),
		"another variable":                 function(variable(2), 1),
		"variable 0":                       function(variable(0), 1),
		"variable 0 of a function with it": function(variable(0), 0),
		"variable -1":                      function(variable(-1), -1),
		"variable 1000":                    function(variable(1000), 1000),
		"the greatest number as variable":  function(variable(math.MaxInt), math.MaxInt),
		"a function with Id 0":             function(number(1), 0),
		"a function with Id -1":            function(number(1), 2, -1),
		"a function with Id 1000":          function(number(1), 1000, 2),
		"a variable twice":                 function(variable(1), 1, 1),
		"a variable twice among others":    function(number(1), 4, 5, 6, 5),
		"a variable of a function around":  function(function(variable(1), 1), 1),
		"one of several of one around":     function(function(function(number(1), 4, 2)), 2, 3),
		"one of one around in an argument": function(call(free("f"), function(number(1), 3)), 3),
		"one of one around in a branch":    function(choice(number(1), number(1), function(number(1), 3)), 3),
		"no name":                          free(""),
		"a bad name":                       free("X"),
		"a name with scopes":               free("x{1}"),
		"a long name":                      free("abcdefghijklm"),
		"number -1":                        number(-1),
		"number 1000":                      number(1000),
		"no data":                          quote(impl.Form{}),
		"data with scopes":                 quote(nameForm("x", 1)),
		"data with scopes in it":           quote(parse(t, "(a (b c{99}) 1)")),
		"data with a bad name":             quote(listForm(nameForm("X"))),
		"data of 401 nodes":                quote(wide(401)),
		"data of 41 levels":                quote(nested(41)),
		"data within itself":               quote(selfHolding()),
		"a function without a body":        {Kind: impl.CoreFun, Ids: []int{1}},
		"a function with two bodies":       {Kind: impl.CoreFun, Kids: []impl.Core{number(1), number(2)}},
		"a function with a bad body":       function(impl.Core{}),
		"an empty call":                    call(),
		"a call of a call without Kids":    call(call()),
		"a call with a bad argument":       call(free("f"), number(1), number(-1), number(1)),
		"a choice without Kids":            choice(),
		"a choice of one":                  choice(number(1)),
		"a choice without an else":         choice(number(1), number(2)),
		"a choice of four":                 choice(number(1), number(2), number(3), number(4)),
		"a bad condition":                  choice(impl.Core{}, number(2), number(3)),
		"a bad last branch":                choice(number(1), number(2), impl.Core{}),
		"601 nodes":                        wideCall(601),
		"601 nodes on two levels":          call(wideCall(300), wideCall(300)),
		"121 levels":                       coreChain(120),
	}
	for what, c := range coresWithForeignFields() {
		cores[what] = c
	}
	return cores
}

// coresWithForeignFields returns programs of each kind, each with one field that the kind does not have.
func coresWithForeignFields() map[string]impl.Core {
	kinds := []struct {
		core   impl.Core
		fields string
	}{
		{variable(1), "Id"},
		{free("x"), "Name"},
		{number(0), "N"},
		{number(1), "N"},
		{quote(nameForm("x")), "Data"},
		{function(number(1)), "Ids Kids"},
		{function(number(1), 2), "Ids Kids"},
		{call(free("f")), "Kids"},
		{choice(number(1), number(2), number(3)), "Kids"},
	}
	changes := map[string]func(*impl.Core){
		"Id":       func(c *impl.Core) { c.Id = 1 },
		"Id -1":    func(c *impl.Core) { c.Id = -1 },
		"Name":     func(c *impl.Core) { c.Name = "y" },
		"Name bad": func(c *impl.Core) { c.Name = " " },
		"N":        func(c *impl.Core) { c.N = 1 },
		"N -1":     func(c *impl.Core) { c.N = -1 },
		"Ids":      func(c *impl.Core) { c.Ids = []int{2} },
		"Ids bad":  func(c *impl.Core) { c.Ids = []int{0} },
		"Data":     func(c *impl.Core) { c.Data = nameForm("y") },
		"Data ()":  func(c *impl.Core) { c.Data = listForm() },
		"Data bad": func(c *impl.Core) { c.Data.N = 1 },
		"Data S":   func(c *impl.Core) { c.Data.Scopes = []int{1} },
		"Data K":   func(c *impl.Core) { c.Data.Kids = []impl.Form{{}} },
		"Kids":     func(c *impl.Core) { c.Kids = []impl.Core{number(1)} },
		"Kids bad": func(c *impl.Core) { c.Kids = []impl.Core{{}} },
	}
	cores := map[string]impl.Core{}
	for _, kind := range kinds {
		for change, apply := range changes {
			if field, _, _ := strings.Cut(change, " "); !strings.Contains(kind.fields, field) {
				c := kind.core
				apply(&c)
				cores[fmt.Sprint("kind ", c.Kind, " with ", change)] = function(c, 1)
			}
		}
	}
	return cores
}

func TestCoreValid(t *testing.T) {
	for text, c := range coreTexts(t) {
		if !impl.CoreValid(c) {
			t.Errorf("CoreValid is false for %s", text)
		}
		if !impl.CoreValid(call(c, function(c), choice(c, c, c))) {
			t.Errorf("CoreValid is false for %s in other programs", text)
		}
	}
	for what, c := range invalidCores(t) {
		checkInvalidCore(t, what, c)
		checkInvalidCore(t, what+" in a function", function(c))
		checkInvalidCore(t, what+" in a call", call(free("f"), c))
		checkInvalidCore(t, what+" in a branch", choice(number(1), c, number(2)))
	}
	checkInvalidCore(t, "a program within itself", selfHoldingCore())
}

// checkInvalidCore checks what all functions that need a valid program return for c.
func checkInvalidCore(t *testing.T, what string, c impl.Core) {
	t.Helper()
	if impl.CoreValid(c) {
		t.Errorf("CoreValid is true for %s", what)
	}
	if impl.CoreAlike(c, c) || impl.CoreAlike(c, free("x")) || impl.CoreAlike(free("x"), c) {
		t.Errorf("CoreAlike is true for %s", what)
	}
	if text := impl.FormatCore(c); text != "" {
		t.Errorf("FormatCore of %s = %q", what, text)
	}
	if numbered, ok := impl.NumberCore(c); ok || !isZeroCore(numbered) {
		t.Errorf("NumberCore of %s = %v, %v", what, numbered, ok)
	}
}

func TestKindsOfCorePrograms(t *testing.T) {
	kinds := []int{impl.CoreVar, impl.CoreFree, impl.CoreNum, impl.CoreQuote, impl.CoreFun, impl.CoreCall, impl.CoreIf}
	if !slices.Equal(kinds, upTo(7)) || impl.MaxCore != 600 {
		t.Errorf("the kinds are %v, and the limit of nodes is %d", kinds, impl.MaxCore)
	}
}

func TestCoreValidTakesEmptySlicesAsNone(t *testing.T) {
	empty := impl.Core{Ids: []int{}, Data: impl.Form{Scopes: []int{}, Kids: []impl.Form{}}, Kids: []impl.Core{}}
	for _, c := range []impl.Core{variable(1), free("x"), number(0)} {
		c.Ids, c.Data, c.Kids = empty.Ids, empty.Data, empty.Kids
		if !impl.CoreValid(function(c, 1)) {
			t.Errorf("CoreValid is false for kind %d with empty slices", c.Kind)
		}
	}
	f := function(number(1))
	f.Ids, f.Data = empty.Ids, empty.Data
	if !impl.CoreValid(f) || !impl.CoreSame(f, function(number(1))) || !impl.CoreAlike(f, function(number(1))) {
		t.Error("nil and empty slices are equivalent in a function")
	}
}

func TestCoreLimits(t *testing.T) {
	data := quote(wide(400))
	deepData := quote(nested(40))
	valid := map[string]impl.Core{
		"600 nodes":                      wideCall(600),
		"600 nodes on two levels":        call(wideCall(300), wideCall(299)),
		"120 levels":                     coreChain(119),
		"120 levels twice":               call(coreChain(118), coreChain(118)),
		"120 levels of calls":            levels(119, func(c impl.Core) impl.Core { return call(free("f"), c) }),
		"120 levels of choices":          levels(119, func(c impl.Core) impl.Core { return choice(c, number(1), number(2)) }),
		"599 times the most data":        call(slices.Repeat([]impl.Core{data}, 599)...),
		"the deepest data on level 120":  levels(119, func(c impl.Core) impl.Core { return call(c, deepData) }),
		"999 variables":                  function(variable(999), upTo(999)...),
		"999 variables in two functions": function(function(variable(1), upTo(999)[500:]...), upTo(500)...),
	}
	for what, c := range valid {
		if !impl.CoreValid(c) {
			t.Errorf("CoreValid is false for %s", what)
		}
	}
	invalid := map[string]impl.Core{
		"601 nodes":                        wideCall(601),
		"601 nodes, the last one deep":     call(append(slices.Repeat([]impl.Core{free("x")}, 498), coreChain(101))...),
		"121 levels":                       coreChain(120),
		"121 levels behind others":         call(free("f"), coreChain(10), coreChain(119)),
		"121 levels of calls":              levels(120, func(c impl.Core) impl.Core { return call(free("f"), c) }),
		"121 levels of choices":            levels(120, func(c impl.Core) impl.Core { return choice(number(1), number(2), c) }),
		"1000 variables":                   function(variable(999), upTo(1000)...),
		"more variables than numbers":      function(number(1), append(upTo(999), 1)...),
		"a million variables":              function(number(1), make([]int, 1000000)...),
		"a million Kids":                   wideCall(1000000),
		"a million levels":                 coreChain(1000000),
		"999 variables, the last of again": function(function(number(1), 999), upTo(999)...),
	}
	for what, c := range invalid {
		checkInvalidCore(t, what, c)
	}
}

// levels returns a free name within so many others, each made of the next one.
func levels(n int, around func(impl.Core) impl.Core) impl.Core {
	c := free("x")
	for range n {
		c = around(c)
	}
	return c
}

func TestCoreSame(t *testing.T) {
	full := impl.Core{Kind: 9, Id: 8, Name: "x", N: 7, Ids: []int{2, 1}, Data: impl.Form{Kind: 6, N: 3}, Kids: []impl.Core{{Kind: 5}, {N: 4}}}
	changes := []func(*impl.Core){
		func(c *impl.Core) { c.Kind = 8 },
		func(c *impl.Core) { c.Id = 7 },
		func(c *impl.Core) { c.Name = "y" },
		func(c *impl.Core) { c.N = 6 },
		func(c *impl.Core) { c.Ids = []int{1, 2} },
		func(c *impl.Core) { c.Ids = []int{2} },
		func(c *impl.Core) { c.Data = impl.Form{Kind: 6} },
		func(c *impl.Core) { c.Data = impl.Form{Kind: 6, N: 3, Scopes: []int{1}} },
		func(c *impl.Core) { c.Kids = []impl.Core{{Kind: 5}} },
		func(c *impl.Core) { c.Kids = []impl.Core{{Kind: 5}, {N: 3}} },
		func(c *impl.Core) { c.Kids = []impl.Core{{Kind: 4}, {N: 4}} },
		func(c *impl.Core) { c.Kids = []impl.Core{{N: 4}, {Kind: 5}} },
		func(c *impl.Core) { c.Kids = []impl.Core{{Kind: 5}, {N: 4}, {}} },
		func(c *impl.Core) { c.Kids = nil },
	}
	if !impl.CoreSame(full, full) || !impl.CoreSame(impl.Core{}, impl.Core{}) {
		t.Error("an invalid program is equal to itself")
	}
	for i, change := range changes {
		other := full
		change(&other)
		if impl.CoreSame(full, other) || impl.CoreSame(other, full) {
			t.Errorf("CoreSame is true for change %d", i)
		}
		if impl.CoreSame(call(free("f"), full), call(free("f"), other)) {
			t.Errorf("CoreSame is true for calls with change %d", i)
		}
	}
	if impl.CoreSame(function(variable(1), 1), function(variable(2), 2)) {
		t.Error("CoreSame is true for other numbers of variables")
	}
	for what, c := range invalidCores(t) {
		if what != "data within itself" && !impl.CoreSame(c, c) {
			t.Errorf("CoreSame of itself is false for %s", what)
		}
	}
}

func TestCoreSameOfAllTexts(t *testing.T) {
	texts := coreTexts(t)
	for text, c := range texts {
		for other, d := range texts {
			if impl.CoreSame(c, d) != (text == other) {
				t.Errorf("CoreSame of %s and %s is %v", text, other, text != other)
			}
		}
	}
}

func TestCoreSize(t *testing.T) {
	cases := []struct {
		core impl.Core
		want int
	}{
		{impl.Core{}, 1},
		{variable(1), 1},
		{free("x"), 1},
		{number(-5), 1},
		{quote(wide(400)), 1},
		{quote(selfHolding()), 1},
		{call(), 1},
		{function(number(1), 1, 2, 3), 2},
		{choice(number(1), number(2), call(number(3), number(4))), 6},
		{function(call(free("+"), variable(7), quote(listForm(numForm(1)))), 7), 5},
		{impl.Core{Kind: impl.CoreVar, Kids: []impl.Core{{}, {Kind: impl.CoreNum, Kids: []impl.Core{{}}}}}, 4},
		{wideCall(600), 600},
		{wideCall(5000), 5000},
		{coreChain(1000), 1001},
	}
	for i, c := range cases {
		if got := impl.CoreSize(c.core); got != c.want {
			t.Errorf("CoreSize of program %d = %d, want %d", i, got, c.want)
		}
	}
}

func TestFormatCore(t *testing.T) {
	for want, c := range coreTexts(t) {
		if got := impl.FormatCore(c); got != want {
			t.Errorf("FormatCore = %q, want %q", got, want)
		}
		if got := impl.FormatCore(call(free("f"), function(c), c)); got != "(f (fun () "+want+") "+want+")" {
			t.Errorf("in another program, FormatCore of %s is %q", want, got)
		}
	}
}

func TestFreeOf(t *testing.T) {
	cases := []struct {
		core impl.Core
		want string
	}{
		{free("x"), "x"},
		{number(1), ""},
		{quote(nameForm("x")), ""},
		{quote(parse(t, "(x y)")), ""},
		{function(variable(1), 1), ""},
		{call(free("g"), free("f"), free("g")), "g f"},
		{call(free("b"), call(free("a"), free("c")), free("a"), free("d")), "b a c d"},
		{call(call(call(free("z"))), free("y"), function(free("x"))), "z y x"},
		{choice(free("c"), free("b"), free("a")), "c b a"},
		{function(choice(function(free("q")), quote(nameForm("p")), free("p")), 1), "q p"},
		{call(free("..."), free("_"), free("if"), free("lambda")), "... _ if lambda"},
		// Programs that are not valid.
		{impl.Core{}, ""},
		{impl.Core{Kind: 8, Name: "x", Kids: []impl.Core{free("y")}}, "y"},
		{impl.Core{Kind: impl.CoreFree, Name: "a b", Id: 3, Kids: []impl.Core{free("y"), free("a b")}}, "a b,y"},
		{call(free("f"), impl.Core{Kind: impl.CoreVar, Name: "x"}, variable(7), free("X")), "f X"},
		{impl.Core{Kind: impl.CoreNum, Name: "n", Kids: []impl.Core{free("b"), free("a"), free("b")}}, "b a"},
	}
	for i, c := range cases {
		want := strings.Fields(c.want)
		if strings.Contains(c.want, ",") {
			want = strings.Split(c.want, ",")
		}
		if got := impl.FreeOf(c.core); !slices.Equal(got, want) {
			t.Errorf("FreeOf program %d = %q, want %q", i, got, want)
		}
	}
	if got := impl.FreeOf(free("")); len(got) != 1 || got[0] != "" {
		t.Errorf("FreeOf a free name without a Name = %q", got)
	}
}

func TestNumberCore(t *testing.T) {
	a := quote(parse(t, "(a 1)"))
	cases := []struct {
		core impl.Core
		want string
	}{
		{free("x"), "x"},
		{number(7), "7"},
		{a, "'(a 1)"},
		{function(free("q")), "(fun () q)"},
		{function(call(free("+"), variable(7), a), 7), "(fun (#1) (+ #1 '(a 1)))"},
		{function(call(variable(2), variable(999), variable(5)), 999, 2, 5), "(fun (#1 #2 #3) (#2 #1 #3))"},
		{function(number(1), 3, 2, 1), "(fun (#1 #2 #3) 1)"},
		{function(function(call(variable(1), variable(2)), 1), 2), "(fun (#1) (fun (#2) (#2 #1)))"},
		{function(function(function(call(variable(9), variable(4)), 4)), 9), "(fun (#1) (fun () (fun (#2) (#1 #2))))"},
		// Functions beside each other, with the same variable.
		{call(function(variable(1), 1), function(variable(1), 1)), "((fun (#1) #1) (fun (#2) #2))"},
		{call(function(variable(5), 5), function(variable(5), 4, 5), function(variable(4), 4)), "((fun (#1) #1) (fun (#2 #3) #3) (fun (#4) #4))"},
		{
			function(call(function(call(variable(3), variable(1)), 1), variable(3), function(call(variable(1), variable(3)), 1)), 3),
			"(fun (#1) ((fun (#2) (#1 #2)) #1 (fun (#3) (#3 #1))))",
		},
		{
			choice(function(variable(3), 3), function(variable(2), 2), function(variable(1), 1)),
			"(if (fun (#1) #1) (fun (#2) #2) (fun (#3) #3))",
		},
		{
			call(function(function(variable(8), 7), 8), function(function(variable(8), 8), 7)),
			"((fun (#1) (fun (#2) #1)) (fun (#3) (fun (#4) #4)))",
		},
	}
	for _, c := range cases {
		before := impl.FormatCore(c.core)
		numbered, ok := impl.NumberCore(c.core)
		if got := impl.FormatCore(numbered); !ok || got != c.want {
			t.Errorf("NumberCore of %s = %s, %v, want %s", before, got, ok, c.want)
		}
		if again, ok := impl.NumberCore(numbered); !ok || !impl.CoreSame(again, numbered) {
			t.Errorf("NumberCore changes %s, which is numbered", c.want)
		}
		if !impl.CoreAlike(c.core, numbered) || !impl.CoreAlike(numbered, c.core) {
			t.Errorf("%s is not alike when it is numbered", before)
		}
	}
}

func TestNumberCoreOfManyVariables(t *testing.T) {
	// manyFunctions returns a call of functions that have so many variables each.
	manyFunctions := func(counts ...int) impl.Core {
		c := call()
		for _, n := range counts {
			c.Kids = append(c.Kids, function(variable(n), upTo(n)...))
		}
		return c
	}
	cases := []struct {
		core impl.Core
		last int
	}{
		{manyFunctions(999), 999},
		{manyFunctions(500, 499), 999},
		{manyFunctions(998, 1), 999},
		{manyFunctions(333, 333, 333), 999},
		{manyFunctions(500, 500), 0},
		{manyFunctions(999, 1), 0},
		{manyFunctions(1, 999), 0},
		{manyFunctions(slices.Repeat([]int{999}, 299)...), 0},
	}
	for i, c := range cases {
		if !impl.CoreValid(c.core) || !impl.CoreAlike(c.core, c.core) {
			t.Errorf("program %d is not valid, or not alike to itself", i)
		}
		numbered, ok := impl.NumberCore(c.core)
		if ok != (c.last > 0) || !ok && !isZeroCore(numbered) {
			t.Errorf("NumberCore of program %d returns %v", i, ok)
		}
		if ok && !strings.HasSuffix(impl.FormatCore(numbered), fmt.Sprintf("#%d) #%d))", c.last, c.last)) {
			t.Errorf("NumberCore of program %d does not end with the variable %d", i, c.last)
		}
	}
	// Functions without variables use up no numbers.
	if numbered, ok := impl.NumberCore(function(levels(118, func(c impl.Core) impl.Core { return function(c) }), upTo(999)...)); !ok || !impl.CoreValid(numbered) {
		t.Error("NumberCore returns false for 999 variables and functions without any")
	}
}

func TestCoreAlike(t *testing.T) {
	one, two := variable(1), variable(2)
	alike := [][2]impl.Core{
		{function(one, 1), function(two, 2)},
		{function(call(one, two), 1, 2), function(call(variable(9), variable(3)), 9, 3)},
		{function(call(one, two), 1, 2), function(call(two, one), 2, 1)},
		{function(number(1), 1, 2), function(number(1), 2, 1)},
		{function(function(call(one, two), 2), 1), function(function(call(two, one), 1), 2)},
		{call(function(one, 1), function(one, 1)), call(function(one, 1), function(two, 2))},
		{call(function(one, 1), function(two, 2)), call(function(two, 2), function(one, 1))},
		{call(function(two, 2, 1), function(one, 1, 2)), call(function(one, 1, 2), function(one, 1, 2))},
		{function(call(function(call(one, two), 2), one), 1), function(call(function(call(two, one), 1), two), 2)},
		{function(call(one, function(two, 2), one), 1), function(call(one, function(variable(3), 3), one), 1)},
		{function(call(one, function(two, 2), function(two, 2)), 1), function(call(two, function(one, 1), function(variable(3), 3)), 2)},
		{function(free("q")), function(free("q"))},
		{function(function(one), 1), function(function(two), 2)},
	}
	for i, pair := range alike {
		if !impl.CoreAlike(pair[0], pair[1]) || !impl.CoreAlike(pair[1], pair[0]) {
			t.Errorf("CoreAlike is false for pair %d", i)
		}
	}
	unlike := [][2]impl.Core{
		{function(call(one, two), 1, 2), function(call(one, two), 2, 1)},
		{function(one, 1, 2), function(two, 1, 2)},
		{function(one, 1), function(one, 1, 2)},
		{function(one, 1), function(number(1), 1)},
		{function(number(1), 1), function(number(1))},
		{function(number(1), 1), function(number(1), 1, 2)},
		{function(function(one, 2), 1), function(function(two, 2), 1)},
		{function(function(one, 2), 1), function(function(one, 1), 2)},
		{function(function(number(1), 1)), function(function(number(1)), 1)},
		{function(function(number(1), 1, 2), 3), function(function(number(1), 1), 2, 3)},
		{call(function(one, 1), function(one, 1, 2)), call(function(one, 1), function(two, 1, 2))},
		{function(call(function(two, 2), function(one, 2)), 1), function(call(function(one, 2), function(two, 2)), 1)},
		{function(call(function(one, 2), function(one, 2)), 1), function(call(function(one, 2), function(two, 2)), 1)},
		{function(free("x"), 1), function(free("y"), 1)},
		{function(one, 1), function(free("x"), 1)},
		{number(1), number(2)},
		{number(1), quote(numForm(1))},
		{number(0), free("x")},
		{free("x"), quote(nameForm("x"))},
		{quote(nameForm("x")), quote(nameForm("y"))},
		{quote(listForm(numForm(1))), quote(listForm(numForm(1), numForm(2)))},
		{call(free("f")), call(free("f"), free("f"))},
		{call(free("f"), free("g")), call(free("g"), free("f"))},
		{choice(number(1), number(2), number(3)), call(number(1), number(2), number(3))},
		{choice(number(1), number(2), number(3)), choice(number(1), number(3), number(2))},
		{call(function(free("q")), number(1)), function(call(free("q"), number(1)))},
	}
	for i, pair := range unlike {
		if impl.CoreAlike(pair[0], pair[1]) || impl.CoreAlike(pair[1], pair[0]) {
			t.Errorf("CoreAlike is true for pair %d", i)
		}
	}
	texts := coreTexts(t)
	for text, c := range texts {
		if !impl.CoreAlike(c, c) {
			t.Errorf("%s is not alike to itself", text)
		}
	}
}

func TestCoreAlikeOfValidAndInvalidPrograms(t *testing.T) {
	// Each pair is equal but for numbers of variables, of which those of the second program are not valid.
	pairs := [][2]impl.Core{
		{function(number(1), 1), function(number(1), 0)},
		{function(number(1), 1), function(number(1), 1000)},
		{function(variable(1), 1), function(variable(1000), 1000)},
		{function(number(1), 1, 2), function(number(1), 1, 1)},
		{function(variable(2), 1, 2), function(variable(1), 1, 1)},
		{function(function(number(1), 2), 1), function(function(number(1), 1), 1)},
		{function(function(variable(2), 2), 1), function(function(variable(1), 1), 1)},
	}
	for i, pair := range pairs {
		if !impl.CoreValid(pair[0]) || impl.CoreAlike(pair[0], pair[1]) || impl.CoreAlike(pair[1], pair[0]) {
			t.Errorf("CoreAlike is true for pair %d", i)
		}
	}
}

// coresOfSize returns all programs with so many nodes that have these atoms and lists of variables, valid or not.
func coresOfSize(nodes int, atoms []impl.Core, idLists [][]int) []impl.Core {
	bySize := [][]impl.Core{nil, atoms}
	for size := 2; size <= nodes; size++ {
		var cores []impl.Core
		for _, body := range bySize[size-1] {
			for _, ids := range idLists {
				cores = append(cores, function(body, ids...))
			}
		}
		for _, kids := range kidsOfSizes(size-1, bySize) {
			cores = append(cores, call(kids...))
			if len(kids) == 3 {
				cores = append(cores, choice(kids...))
			}
		}
		bySize = append(bySize, cores)
	}
	return slices.Concat(bySize...)
}

// kidsOfSizes returns all lists of programs with so many nodes together.
func kidsOfSizes(nodes int, bySize [][]impl.Core) [][]impl.Core {
	if nodes == 0 {
		return [][]impl.Core{nil}
	}
	var lists [][]impl.Core
	for size := 1; size <= nodes; size++ {
		for _, rest := range kidsOfSizes(nodes-size, bySize) {
			for _, first := range bySize[size] {
				lists = append(lists, append([]impl.Core{first}, rest...))
			}
		}
	}
	return lists
}

// withPlaces returns a text of c in which a variable is told by how many functions are between it and its own one, and
// by its index there; and false if a variable has none or two. It looks at nothing else.
func withPlaces(c impl.Core, around [][]int) (string, bool) {
	text := fmt.Sprint("kind", c.Kind, " ", len(c.Ids), " ", c.Name, c.N, impl.FormatForm(c.Data))
	if c.Kind == impl.CoreVar {
		found := 0
		for i, ids := range slices.Backward(around) {
			if at := slices.Index(ids, c.Id); at >= 0 {
				text += fmt.Sprint(" ", len(around)-1-i, " ", at)
				found++
			}
		}
		return text, found == 1
	}
	for i, id := range c.Ids {
		if slices.Contains(slices.Concat(around...), id) || slices.Contains(c.Ids[:i], id) {
			return "", false
		}
	}
	if c.Kind == impl.CoreFun {
		around = append(slices.Clone(around), c.Ids)
	}
	for _, kid := range c.Kids {
		inner, ok := withPlaces(kid, around)
		if !ok {
			return "", false
		}
		text += "(" + inner + ")"
	}
	return text, true
}

// idsInOrder returns the Ids of all functions in the order of the text.
func idsInOrder(c impl.Core) []int {
	ids := slices.Clone(c.Ids)
	for _, kid := range c.Kids {
		ids = append(ids, idsInOrder(kid)...)
	}
	return ids
}

func TestAllShortCorePrograms(t *testing.T) {
	atoms := []impl.Core{variable(1), variable(2), number(1)}
	cores := coresOfSize(5, atoms, [][]int{nil, {1}, {2}, {1, 2}, {2, 1}})
	places := map[string][]impl.Core{}
	valid := 0
	for _, c := range cores {
		text, ok := withPlaces(c, nil)
		if impl.CoreValid(c) != ok {
			t.Fatalf("CoreValid of %v is %v", c, !ok)
		}
		numbered, numberedOk := impl.NumberCore(c)
		if numberedOk != ok {
			t.Fatalf("NumberCore of %v returns %v", c, numberedOk)
		}
		if !ok {
			continue
		}
		valid++
		places[text] = append(places[text], c)
		if now, _ := withPlaces(numbered, nil); now != text {
			t.Fatalf("NumberCore of %s = %s", impl.FormatCore(c), impl.FormatCore(numbered))
		}
		if ids := idsInOrder(numbered); !slices.Equal(ids, upTo(len(ids))) {
			t.Fatalf("NumberCore of %s = %s", impl.FormatCore(c), impl.FormatCore(numbered))
		}
	}
	if valid < 1000 || valid == len(cores) {
		t.Errorf("of %d programs, %d are valid", len(cores), valid)
	}
	for _, group := range places {
		checkGroupAlike(t, group)
	}
}

// checkGroupAlike checks programs that are all alike.
func checkGroupAlike(t *testing.T, group []impl.Core) {
	t.Helper()
	first, _ := impl.NumberCore(group[0])
	for i, c := range group {
		if !impl.CoreAlike(group[0], c) || !impl.CoreAlike(c, group[max(i-1, 0)]) {
			t.Fatalf("CoreAlike of %s and others of its group is false", impl.FormatCore(c))
		}
		if numbered, _ := impl.NumberCore(c); !impl.CoreSame(numbered, first) {
			t.Fatalf("%s and %s are numbered differently", impl.FormatCore(c), impl.FormatCore(group[0]))
		}
	}
}

func TestPairsOfShortCorePrograms(t *testing.T) {
	// Of the longer ones, each is compared with some of the others only.
	for nodes, step := range map[int]int{5: 1, 6: 29} {
		var cores []impl.Core
		var texts []string
		atoms := []impl.Core{variable(1), variable(2)}
		for _, c := range coresOfSize(nodes, atoms, [][]int{{1}, {2}, {1, 2}, {2, 1}}) {
			if text, ok := withPlaces(c, nil); ok {
				cores, texts = append(cores, c), append(texts, text)
			}
		}
		alike := 0
		for i, c := range cores {
			for j := i % step; j < len(cores); j += step {
				want := texts[i] == texts[j]
				if impl.CoreAlike(c, cores[j]) != want {
					t.Fatalf("CoreAlike of %s and %s is %v", impl.FormatCore(c), impl.FormatCore(cores[j]), !want)
				}
				if want && i != j {
					alike++
				}
			}
		}
		if alike < 20 {
			t.Errorf("of %d programs, only %d pairs are alike", len(cores), alike)
		}
	}
}

func TestCoreProgramsWithinThemselves(t *testing.T) {
	c := selfHoldingCore()
	if impl.CoreSize(c) != 0 || len(impl.FreeOf(c)) != 0 {
		t.Error("CoreSize or FreeOf is not the zero value for an endless program")
	}
	if impl.CoreSame(c, c) || impl.CoreSame(c, coreChain(50)) || impl.CoreSame(coreChain(50), c) {
		t.Error("CoreSame is true for an endless program")
	}
	d := quote(selfHolding())
	if impl.CoreSame(d, d) || impl.CoreSame(d, quote(nested(50))) || impl.CoreSame(quote(nested(50)), d) {
		t.Error("CoreSame is true for endless data")
	}
	shared := []impl.Core{function(free("x"))}
	twice := call(call(shared...), call(shared...))
	if impl.CoreSize(twice) != 7 || !impl.CoreValid(twice) || !slices.Equal(impl.FreeOf(twice), []string{"x"}) {
		t.Error("a program that is twice in another one is not endless")
	}
}

func TestCoreProgramsOfAnyDepth(t *testing.T) {
	const depth = 200000
	c := coreChain(depth)
	if impl.CoreSize(c) != depth+1 || !slices.Equal(impl.FreeOf(c), []string{"x"}) {
		t.Error("CoreSize or FreeOf is wrong for a deep program")
	}
	if !impl.CoreSame(c, coreChain(depth)) || impl.CoreSame(c, coreChain(depth-1)) {
		t.Error("CoreSame is wrong for a deep program")
	}
}

func TestCoreProgramsOfMuchWork(t *testing.T) {
	// A hundred slices of two, each of them twice in the one around, hold more nodes than can be counted.
	data, kids := []impl.Form{numForm(1), numForm(2)}, []impl.Core{number(1), number(2)}
	for range 100 {
		data = []impl.Form{listForm(data...), listForm(data...)}
		kids = []impl.Core{call(kids...), call(kids...)}
	}
	checkInvalidCore(t, "data of too many nodes", quote(listForm(data...)))
	checkInvalidCore(t, "a number with data of too many nodes", impl.Core{Kind: impl.CoreNum, Data: listForm(data...)})
	checkInvalidCore(t, "a program of too many nodes", call(kids...))
}

// spoilCore overwrites all memory that c has, with its unused capacity.
func spoilCore(c impl.Core) {
	ids := c.Ids[:cap(c.Ids)]
	for i := range ids {
		ids[i] = 77
	}
	spoil(c.Data)
	kids := c.Kids[:cap(c.Kids)]
	for i := range kids {
		spoilCore(kids[i])
		kids[i] = number(777)
	}
}

// roomyCore returns c where every slice has unused capacity, in which there are further values.
func roomyCore(c impl.Core) impl.Core {
	var kids []impl.Core
	for _, kid := range c.Kids {
		kids = append(kids, roomyCore(kid))
	}
	kids = append(kids, free("beyond"), number(8))
	ids := append(slices.Clone(c.Ids), 55, 66)
	c.Ids, c.Kids, c.Data = ids[:len(c.Ids)], kids[:len(c.Kids)], roomyCopy(c.Data)
	return c
}

// memoryOfCore returns a text of all memory of a core program, with its unused capacity.
func memoryOfCore(c impl.Core) string {
	text := fmt.Sprint(c.Kind, c.Id, c.Name, c.N, c.Ids[:cap(c.Ids)], len(c.Ids), len(c.Kids), memoryOfForm(c.Data))
	for _, kid := range c.Kids[:cap(c.Kids)] {
		text += "(" + memoryOfCore(kid) + ")"
	}
	return text
}

func TestCoreResultsShareNoMemory(t *testing.T) {
	small := function(call(variable(7), quote(parse(t, "(a (1))")), function(variable(5), 5, 6), free("y")), 7, 8)
	c := roomyCore(choice(small, small, number(3)))
	before := memoryOfCore(c)
	const want = "(if (fun (#1 #2) (#1 '(a (1)) (fun (#3 #4) #3) y)) (fun (#5 #6) (#5 '(a (1)) (fun (#7 #8) #7) y)) 3)"
	numbered, _ := impl.NumberCore(c)
	again, _ := impl.NumberCore(c)
	names := impl.FreeOf(c)
	if got := impl.FormatCore(numbered); got != want || !impl.CoreAlike(c, numbered) || !impl.CoreSame(c, c) || impl.CoreSize(c) != 16 {
		t.Fatalf("NumberCore = %s, or a program is wrong with memory beyond its length", got)
	}
	if memoryOfCore(c) != before {
		t.Fatal("an argument, or memory beyond its length, is changed")
	}
	checkKidsApart(t, numbered)
	spoilCore(numbered)
	if memoryOfCore(c) != before || impl.FormatCore(again) != want {
		t.Error("NumberCore shares memory with its argument or with another result")
	}
	names[0] = "z"
	if got := impl.FreeOf(c); !slices.Equal(got, []string{"y"}) {
		t.Errorf("FreeOf = %q behind a change of another result", got)
	}
}

// checkKidsApart spoils all parts of c in order, which must leave those behind them as they are.
func checkKidsApart(t *testing.T, c impl.Core) {
	t.Helper()
	for i := range c.Kids {
		checkKidsApart(t, c.Kids[i])
		later := memoryOfCore(call(c.Kids[i+1:]...))
		spoilCore(c.Kids[i])
		if memoryOfCore(call(c.Kids[i+1:]...)) != later {
			t.Errorf("parts of a program share memory, behind its part %d", i)
		}
	}
}

func TestCoreKeepsNoState(t *testing.T) {
	for i := range 20 {
		id := 900 + i
		c := function(call(variable(id), free("f"+strconv.Itoa(i))), id)
		numbered, ok := impl.NumberCore(c)
		if got := impl.FormatCore(numbered); !ok || got != fmt.Sprintf("(fun (#1) (#1 f%d))", i) {
			t.Fatalf("NumberCore = %s, %v", got, ok)
		}
		if impl.CoreValid(variable(id)) || !impl.CoreValid(c) || len(impl.FreeOf(c)) != 1 {
			t.Fatal("CoreValid or FreeOf depends on earlier calls")
		}
	}
}
