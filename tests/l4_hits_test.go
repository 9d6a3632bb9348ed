package tests

import (
	"math"
	"slices"
	"strconv"
	"strings"
	"testing"

	"loop.example/macroexpander/impl"
)

func hit(name impl.Form, one impl.Form) impl.Hit {
	return impl.Hit{Name: name, One: one}
}

// row returns a hit of Depth 1 or more with others as Many.
func row(name impl.Form, depth int, many ...impl.Hit) impl.Hit {
	return impl.Hit{Name: name, Depth: depth, Many: many}
}

// numbers returns so many hits of x with the numbers from 0 on.
func numbers(n int) []impl.Hit {
	var hits []impl.Hit
	for i := range n {
		hits = append(hits, hit(nameForm("x"), numForm(i)))
	}
	return hits
}

// manyHits returns so many hits of different variables.
func manyHits(n int) []impl.Hit {
	var hits []impl.Hit
	for i := range n {
		hits = append(hits, hit(nameForm("v"+strconv.Itoa(i)), numForm(i)))
	}
	return hits
}

// selfHoldingHits returns hits, one of which has all of them as Many.
func selfHoldingHits(depth int) []impl.Hit {
	hits := []impl.Hit{hit(nameForm("x"), numForm(1)), row(nameForm("x"), depth)}
	hits[1].Many = hits
	return hits
}

// deepHits returns a hit with so many hits on the way down.
func deepHits(levels int) []impl.Hit {
	hits := []impl.Hit{hit(nameForm("x"), numForm(1))}
	for depth := range levels - 1 {
		hits = []impl.Hit{row(nameForm("x"), depth+1, hits...)}
	}
	return hits
}

func validHits() map[string][]impl.Hit {
	x, y := nameForm("x"), nameForm("y", 1, 2)
	return map[string][]impl.Hit{
		"nil":                       nil,
		"no hits":                   {},
		"a number":                  {hit(x, numForm(5))},
		"a form with scopes":        {hit(y, listForm(nameForm("a", 3), listForm()))},
		"dots as One":               {hit(x, nameForm("..."))},
		"empty slices":              {{Name: x, One: numForm(1), Many: []impl.Hit{}}},
		"an empty row":              {row(x, 1)},
		"an empty row of rows":      {row(x, 3)},
		"One with empty slices":     {{Name: x, Depth: 2, One: impl.Form{Scopes: []int{}, Kids: []impl.Form{}}, Many: []impl.Hit{}}},
		"a row":                     {row(x, 1, numbers(3)...)},
		"rows in rows":              {row(y, 3, row(y, 2, row(y, 1, hit(y, x)), row(y, 1)), row(y, 2))},
		"several":                   {hit(x, y), row(y, 1, hit(y, x)), hit(nameForm("z"), x)},
		"the same Name, not scopes": {hit(x, y), hit(nameForm("x", 1), y), hit(nameForm("x", 2), y), hit(nameForm("x", 1, 2), y)},
		"20 hits":                   manyHits(20),
		"400 hits in a row":         {row(x, 1, numbers(400)...)},
		"400 rows in a row":         {row(x, 2, slices.Repeat([]impl.Hit{row(x, 1, numbers(2)...)}, 400)...)},
		"the greatest form":         {hit(x, wide(400)), hit(y, nested(40))},
	}
}

func invalidHits() map[string][]impl.Hit {
	x, y := nameForm("x"), nameForm("y", 1, 2)
	hits := map[string][]impl.Hit{
		"the zero value":            {{}},
		"dots":                      {hit(nameForm("..."), x)},
		"dots with scopes":          {row(nameForm("...", 1), 1)},
		"a line":                    {hit(nameForm("_"), x)},
		"a line with scopes":        {row(nameForm("_", 3), 2)},
		"no One":                    {{Name: x}},
		"One, and a hit in Many":    {{Name: x, One: y, Many: numbers(1)}},
		"Depth -1":                  {{Name: x, Depth: -1, One: y}},
		"Depth -1, without One":     {{Name: x, Depth: -1}},
		"the least Depth":           {{Name: x, Depth: math.MinInt}},
		"Depth 4":                   {row(x, 4)},
		"the greatest Depth":        {row(x, math.MaxInt)},
		"Depth 4 with a row":        {row(x, 4, row(x, 3))},
		"Depth 1 with One":          {{Name: x, Depth: 1, One: y}},
		"Depth 1 with One and Many": {{Name: x, Depth: 1, One: y, Many: numbers(1)}},
		"Depth 1 with N in One":     {{Name: x, Depth: 1, One: impl.Form{N: 1}}},
		"another name in a row":     {row(x, 1, hit(x, y), hit(nameForm("z"), y))},
		"other scopes in a row":     {row(x, 1, hit(nameForm("x", 1), y))},
		"another Depth in a row":    {row(x, 2, row(x, 1), hit(x, y))},
		"Depth 0 of an empty row":   {row(x, 2, row(x, 0))},
		"Depth 1 of a form":         {row(x, 1, impl.Hit{Name: x, Depth: 1, One: y})},
		"Depth -1 of a form":        {row(x, 1, impl.Hit{Name: x, Depth: -1, One: y})},
		"Depth 2 in Depth 2":        {row(x, 2, row(x, 1), row(x, 2))},
		"Depth 1 in Depth 3":        {row(x, 3, row(x, 1))},
		"the same Depth in a row":   {row(x, 1, row(x, 1))},
		"Depth 3 of numbers":        {row(x, 3, numbers(1)...)},
		"another name, deeper":      {row(x, 2, row(x, 1, hit(y, y)))},
		"One in a row of rows":      {row(x, 2, impl.Hit{Name: x, Depth: 1, One: y})},
		"401 hits in a row":         {row(x, 1, numbers(401)...)},
		"401 rows in a row":         {row(x, 3, slices.Repeat([]impl.Hit{row(x, 2)}, 401)...)},
		"401 in a row of a row":     {row(x, 2, row(x, 1, numbers(401)...))},
		"21 hits":                   manyHits(21),
		"many hits":                 make([]impl.Hit, 100000),
		"a name twice":              {hit(x, y), hit(x, y)},
		"a name with scopes twice":  {hit(y, x), hit(x, x), row(y, 1)},
		"a bad one at the end":      {hit(x, y), {Name: y}},
		"hits within themselves":    selfHoldingHits(1),
		"themselves, Depth 3":       selfHoldingHits(3),
		"many levels":               deepHits(10000),
	}
	for what, f := range noNames() {
		hits[what+" as Name"] = []impl.Hit{hit(f, x)}
		hits[what+" as Name of a row"] = []impl.Hit{row(f, 1, hit(f, x))}
	}
	for what, f := range invalidForms() {
		hits[what+" as One"] = []impl.Hit{hit(x, f)}
		hits[what+" as One in a row"] = []impl.Hit{row(x, 1, hit(x, y), hit(x, f))}
	}
	return hits
}

func TestHitsValid(t *testing.T) {
	for what, hits := range validHits() {
		if !impl.HitsValid(hits) {
			t.Errorf("HitsValid is false for %s", what)
		}
	}
	for what, hits := range invalidHits() {
		if impl.HitsValid(hits) {
			t.Errorf("HitsValid is true for %s", what)
		}
	}
}

func isZeroHit(h impl.Hit) bool {
	return isZero(h.Name) && h.Depth == 0 && isZero(h.One) && len(h.Many) == 0
}

func TestFindHit(t *testing.T) {
	for what, hits := range validHits() {
		for _, h := range hits {
			found, ok := impl.FindHit(hits, h.Name)
			if !ok || !impl.HitsSame([]impl.Hit{found}, []impl.Hit{h}) {
				t.Errorf("FindHit of %s = %v, %v", what, found, ok)
			}
		}
	}
	hits := []impl.Hit{hit(nameForm("x"), numForm(1)), hit(nameForm("x", 1), numForm(2)), row(nameForm("y"), 1)}
	for text, want := range map[string]string{"x": "x=1", "x{1}": "x{1}=2", "y": "y=1[]"} {
		if found, ok := impl.FindHit(hits, parse(t, text)); !ok || hitText(found) != want {
			t.Errorf("FindHit of %s = %v, %v", text, found, ok)
		}
	}
	for _, text := range []string{"z", "x{2}", "x{1,2}", "y{1}", "_", "...", "5", "()", "(x)"} {
		if found, ok := impl.FindHit(hits, parse(t, text)); ok || !isZeroHit(found) {
			t.Errorf("FindHit of %s = %v, %v", text, found, ok)
		}
	}
	for what, f := range invalidForms() {
		if found, ok := impl.FindHit(hits, f); ok || !isZeroHit(found) {
			t.Errorf("FindHit of %s = %v, %v", what, found, ok)
		}
	}
	for what, invalid := range invalidHits() {
		hits := append(slices.Clone(invalid), hit(nameForm("q"), numForm(1)))
		for _, name := range []impl.Form{nameForm("q"), nameForm("x"), invalid[0].Name} {
			if found, ok := impl.FindHit(hits, name); ok || !isZeroHit(found) {
				t.Errorf("FindHit of %s = %v, %v", what, found, ok)
			}
		}
	}
}

func TestHitForms(t *testing.T) {
	x, y := nameForm("x"), nameForm("y", 1, 2)
	one := func(n int) impl.Hit { return hit(x, numForm(n)) }
	texts := map[string]impl.Hit{
		"(5)":               one(5),
		"((a{3} ()))":       hit(y, listForm(nameForm("a", 3), listForm())),
		"()":                row(x, 2),
		"(0 1 2)":           row(x, 1, numbers(3)...),
		"(3 1 1)":           row(x, 1, one(3), one(1), one(1)),
		"(4 3 2)":           row(x, 2, row(x, 1, one(4), one(3)), row(x, 1), row(x, 1, one(2))),
		"(1 2 3 4 x)":       row(x, 3, row(x, 2, row(x, 1, one(1)), row(x, 1, one(2), one(3))), row(x, 2), row(x, 2, row(x, 1, one(4), hit(x, x)))),
		"((x) y{1,2} (()))": row(y, 1, hit(y, listForm(x)), hit(y, y), hit(y, nested(2))),
	}
	for want, h := range texts {
		if got := textOf(impl.HitForms(h)); got != want {
			t.Errorf("HitForms of %v = %s, want %s", h, got, want)
		}
	}
	if forms := impl.HitForms(row(x, 2, slices.Repeat([]impl.Hit{row(x, 1, numbers(400)...)}, 400)...)); len(forms) != 160000 || forms[159999].N != 399 {
		t.Errorf("HitForms of 400 rows returns %d forms", len(forms))
	}
	for what, hits := range invalidHits() {
		if forms := impl.HitForms(hits[0]); len(forms) != 0 && !impl.HitsValid(hits[:1]) {
			t.Errorf("HitForms of %s = %v", what, forms)
		}
	}
}

func TestHitsSame(t *testing.T) {
	all := []map[string][]impl.Hit{validHits(), invalidHits(), {
		"invalid at every level": {{Name: numForm(-1), Depth: 9, One: nameForm("B"), Many: []impl.Hit{{Depth: -5}}}},
	}}
	for _, some := range all {
		for what, hits := range some {
			ends := !strings.Contains(what, "themselves") && !strings.Contains(what, "within itself")
			if impl.HitsSame(hits, hits) != ends || impl.HitsSame(hits, slices.Clone(hits)) != ends {
				t.Errorf("HitsSame of %s and itself is %v", what, !ends)
			}
			if impl.HitsSame(hits, append(slices.Clone(hits), impl.Hit{})) || impl.HitsSame(append(slices.Clone(hits), impl.Hit{}), hits) {
				t.Errorf("HitsSame of %s and more hits is true", what)
			}
		}
	}
	if !impl.HitsSame(nil, []impl.Hit{}) || !impl.HitsSame([]impl.Hit{{}}, []impl.Hit{{Many: []impl.Hit{}}}) {
		t.Error("nil and empty slices are equivalent")
	}
}

func TestHitsThatDiffer(t *testing.T) {
	full := impl.Hit{Name: nameForm("x", 1), Depth: 7, One: numForm(5), Many: []impl.Hit{hit(nameForm("y"), numForm(1)), {}}}
	others := map[string]impl.Hit{
		"Name":            {Name: nameForm("y", 1), Depth: 7, One: numForm(5), Many: full.Many},
		"scopes of Name":  {Name: nameForm("x", 2), Depth: 7, One: numForm(5), Many: full.Many},
		"Depth":           {Name: nameForm("x", 1), Depth: 8, One: numForm(5), Many: full.Many},
		"One":             {Name: nameForm("x", 1), Depth: 7, One: numForm(6), Many: full.Many},
		"no One":          {Name: nameForm("x", 1), Depth: 7, Many: full.Many},
		"fewer in Many":   {Name: nameForm("x", 1), Depth: 7, One: numForm(5), Many: full.Many[:1]},
		"no Many":         {Name: nameForm("x", 1), Depth: 7, One: numForm(5)},
		"other order":     {Name: nameForm("x", 1), Depth: 7, One: numForm(5), Many: []impl.Hit{full.Many[1], full.Many[0]}},
		"Name in Many":    {Name: nameForm("x", 1), Depth: 7, One: numForm(5), Many: []impl.Hit{hit(nameForm("z"), numForm(1)), {}}},
		"One in Many":     {Name: nameForm("x", 1), Depth: 7, One: numForm(5), Many: []impl.Hit{hit(nameForm("y"), numForm(2)), {}}},
		"Depth in Many":   {Name: nameForm("x", 1), Depth: 7, One: numForm(5), Many: []impl.Hit{full.Many[0], {Depth: 1}}},
		"a hit in a hit":  {Name: nameForm("x", 1), Depth: 7, One: numForm(5), Many: []impl.Hit{full.Many[0], {Many: []impl.Hit{{}}}}},
		"endless Many":    {Name: nameForm("x", 1), Depth: 7, One: numForm(5), Many: selfHoldingHits(1)},
		"an endless One":  {Name: nameForm("x", 1), Depth: 7, One: selfHolding(), Many: full.Many},
		"an endless Name": {Name: selfHolding(), Depth: 7, One: numForm(5), Many: full.Many},
		"the zero value":  {},
		"zeros in Many":   {Name: nameForm("x", 1), Depth: 7, One: numForm(5), Many: make([]impl.Hit, 2)},
	}
	x := nameForm("x")
	for what, other := range others {
		for _, pair := range [][2]impl.Hit{{full, other}, {other, full}} {
			if impl.HitsSame(pair[:1], pair[1:]) {
				t.Errorf("HitsSame is true for another %s", what)
			}
			if impl.HitsSame([]impl.Hit{row(x, 1, pair[0])}, []impl.Hit{row(x, 1, pair[1])}) {
				t.Errorf("HitsSame is true for another %s, one level down", what)
			}
			if impl.HitsSame([]impl.Hit{{}, pair[0], {}}, []impl.Hit{{}, pair[1], {}}) {
				t.Errorf("HitsSame is true for another %s, among others", what)
			}
		}
	}
}

func TestHitsOfAnyDepth(t *testing.T) {
	deep := deepHits(1000000)
	if !impl.HitsSame(deep, deepHits(1000000)) || impl.HitsSame(deep, deepHits(999999)) || impl.HitsSame(deep, selfHoldingHits(1)) {
		t.Error("HitsSame is wrong for deep hits")
	}
	shared := row(nameForm("x"), 1, numbers(2)...)
	twice := []impl.Hit{row(nameForm("x"), 2, shared, shared)}
	if !impl.HitsSame(twice, twice) {
		t.Error("hits that are twice among others are not endless")
	}
}

// roomyHits returns hits where every slice has unused capacity, in which there are further values.
func roomyHits() []impl.Hit {
	x, y, beyond := roomyCopy(nameForm("x", 1, 2)), roomyCopy(nameForm("y", 3)), roomyCopy(nameForm("beyond"))
	list := roomyCopy(listForm(nameForm("a", 1), listForm(numForm(2))))
	ones := []impl.Hit{hit(roomyCopy(y), list), hit(roomyCopy(y), x), hit(beyond, list)}
	hits := []impl.Hit{
		{Name: x, One: list, Many: []impl.Hit{hit(beyond, x)}[:0]},
		{Name: y, Depth: 1, One: roomyCopy(impl.Form{}), Many: ones[:2]},
		{Name: beyond, Depth: 9},
	}
	return hits[:2]
}

func memoryOfHits(hits []impl.Hit) string {
	text := strconv.Itoa(len(hits))
	for _, h := range hits[:cap(hits)] {
		text += "[" + memoryOfForm(h.Name) + strconv.Itoa(h.Depth) + memoryOfForm(h.One) + memoryOfHits(h.Many) + "]"
	}
	return text
}

func spoilHits(hits []impl.Hit) {
	hits = hits[:cap(hits)]
	for i := range hits {
		spoil(hits[i].Name)
		spoil(hits[i].One)
		spoilHits(hits[i].Many)
		hits[i] = hit(nameForm("spoilt"), numForm(777))
	}
}

func TestHitFunctionsShareNoMemory(t *testing.T) {
	hits := roomyHits()
	before := memoryOfHits(hits)
	if !impl.HitsValid(hits) || !impl.HitsSame(hits, roomyHits()) {
		t.Fatal("HitsValid or HitsSame is false")
	}
	for _, h := range hits {
		forms, formsAgain := impl.HitForms(h), impl.HitForms(h)
		found, _ := impl.FindHit(hits, h.Name)
		again, _ := impl.FindHit(hits, h.Name)
		for i := range forms {
			spoil(forms[i])
			if textOf(forms[i+1:]) != textOf(formsAgain[i+1:]) {
				t.Error("parts of what HitForms returns share memory")
			}
		}
		spoilForms(forms)
		spoilHits([]impl.Hit{found})
		if memoryOfHits(hits) != before {
			t.Error("HitForms or FindHit shares memory with an argument, or changes it")
		}
		if !impl.HitsSame([]impl.Hit{again}, []impl.Hit{h}) || textOf(formsAgain) != textOf(impl.HitForms(h)) {
			t.Error("HitForms or FindHit shares memory with another result")
		}
	}
}

// checkApart spoils all parts of hits in order, and reports whether those behind each part stay as they are.
func checkApart(hits []impl.Hit) bool {
	for i, h := range hits {
		one, many, others := impl.FormatForm(h.One), hitsText(h.Many), hitsText(hits[i+1:])
		spoil(h.Name)
		if impl.FormatForm(h.One) != one || hitsText(h.Many) != many {
			return false
		}
		spoil(h.One)
		if hitsText(h.Many) != many || !checkApart(h.Many) {
			return false
		}
		spoilHits(h.Many)
		if hitsText(hits[i+1:]) != others {
			return false
		}
	}
	return true
}

func TestPartsOfHitsShareNoMemory(t *testing.T) {
	cases := []matchCase{
		{"(a{1,2} b{3})", "((p{4} (q)) r{5})", "a{1,2}=(p{4} (q)) b{3}=r{5}"},
		{"(a{1,2} (b{3} c{4} ...) ... (d e))", "(q{1} (r{2} s{3} (t)) (u{4} v{5}) (w{6} (y)))", "a{1,2}=q{1} b{3}=1[r{2} u{4}] c{4}=2[1[s{3} (t)] 1[v{5}]] d=w{6} e=(y)"},
		{"((a{1} b{2} c{3}) ...)", "((1 x{1} 3) (4 y{2} 6) (7 z{3} 9))", "a{1}=1[1 4 7] b{2}=1[x{1} y{2} z{3}] c{3}=1[3 6 9]"},
	}
	checkMatches(t, cases)
	for _, c := range cases {
		hits, _ := impl.MatchPattern(nil, parse(t, c.pattern), nil, parse(t, c.form))
		if !checkApart(hits) {
			t.Errorf("parts of the hits of %s share memory", c.pattern)
		}
		hits, _ = impl.MatchPattern(nil, parse(t, c.pattern), nil, parse(t, c.form))
		for _, h := range hits {
			found, _ := impl.FindHit(hits, h.Name)
			if !checkApart([]impl.Hit{found}) {
				t.Errorf("parts of what FindHit returns share memory for %s", c.pattern)
			}
		}
	}
}
