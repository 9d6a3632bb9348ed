package impl

import (
	"slices"
	"strconv"
	"strings"
)

// Form is a name with scopes, a number, or a list of forms.
type Form struct {
	Kind   int
	Name   string
	N      int
	Scopes []int
	Kids   []Form
}

// Kinds of forms, and their limits.
const (
	KindName  = 1
	KindNum   = 2
	KindList  = 3
	MaxNum    = 999
	MaxName   = 12
	MaxScope  = 99
	MaxScopes = 24
	MaxNodes  = 400
	MaxDepth  = 40
)

// node is a form with only the fields of its kind.
type node interface {
	appendText(text []byte) []byte
}

type nameNode struct {
	name   string
	scopes []int
}

type numberNode struct {
	number int
}

type listNode struct {
	kids []Form
}

// nodeOf returns nil if f has no kind, or a field that its kind does not have.
func nodeOf(f Form) node {
	switch {
	case f.Kind == KindName && f.N == 0 && len(f.Kids) == 0:
		return nameNode{f.Name, f.Scopes}
	case f.Kind == KindNum && f.Name == "" && len(f.Scopes) == 0 && len(f.Kids) == 0:
		return numberNode{f.N}
	case f.Kind == KindList && f.Name == "" && f.N == 0 && len(f.Scopes) == 0:
		return listNode{f.Kids}
	}
	return nil
}

func (n nameNode) appendText(text []byte) []byte {
	text = append(text, n.name...)
	for i, scope := range n.scopes {
		text = append(text, separator(i, '{', ','))
		text = strconv.AppendInt(text, int64(scope), 10)
	}
	if len(n.scopes) > 0 {
		text = append(text, '}')
	}
	return text
}

func (n numberNode) appendText(text []byte) []byte {
	return strconv.AppendInt(text, int64(n.number), 10)
}

func (n listNode) appendText(text []byte) []byte {
	if len(n.kids) == 0 {
		return append(text, "()"...)
	}
	for i, kid := range n.kids {
		text = append(text, separator(i, '(', ' '))
		text = nodeOf(kid).appendText(text)
	}
	return append(text, ')')
}

// separator returns what stands in front of the element with the index i.
func separator(i int, first byte, others byte) byte {
	if i == 0 {
		return first
	}
	return others
}

// NameValid reports whether s is a name.
func NameValid(s string) bool {
	if s == "..." || s == "_" {
		return true
	}
	if len(s) == 0 || len(s) > MaxName {
		return false
	}
	for i, r := range s {
		if !beginsName(r) && (i == 0 || !continuesName(r)) {
			return false
		}
	}
	return true
}

func beginsName(r rune) bool {
	switch r {
	case '*', '?', '=', '+', '<':
		return true
	}
	return 'a' <= r && r <= 'z'
}

func continuesName(r rune) bool {
	return r == '-' || '0' <= r && r <= '9'
}

func scopesValid(scopes []int) bool {
	if len(scopes) > MaxScopes {
		return false
	}
	last := 0
	for _, scope := range scopes {
		if scope <= last || scope > MaxScope {
			return false
		}
		last = scope
	}
	return true
}

// FormValid reports whether f is a form.
func FormValid(f Form) bool {
	return new(room).holds(f)
}

// room counts the nodes of a tree that is checked or read, in all and on the way down to where it is.
// Counting both on the way bounds the work for a tree of any size.
type room struct {
	nodes int
	depth int
}

// enter reports whether a form has room for one more node below those that were entered and not left.
func (r *room) enter() bool {
	return r.enterWithin(MaxNodes, MaxDepth)
}

// enterWithin reports the same for a tree with limits of its own.
func (r *room) enterWithin(mostNodes int, mostDepth int) bool {
	r.nodes++
	r.depth++
	return r.nodes <= mostNodes && r.depth <= mostDepth
}

func (r *room) leave() {
	r.depth--
}

func (r *room) holds(f Form) bool {
	if !r.enter() {
		return false
	}
	defer r.leave()
	return r.holdsFields(nodeOf(f))
}

// holdsFields reports whether the fields of n are valid, and there is room for the forms in it.
func (r *room) holdsFields(n node) bool {
	switch n := n.(type) {
	case nameNode:
		return NameValid(n.name) && scopesValid(n.scopes)
	case numberNode:
		return 0 <= n.number && n.number <= MaxNum
	case listNode:
		for _, kid := range n.kids {
			if !r.holds(kid) {
				return false
			}
		}
		return true
	}
	return false
}

// endless reports whether f holds itself, as a slice can. The specification does not mention such forms, which
// have no number of nodes, so what accepts invalid forms returns the zero value for them.
func endless(f Form) bool {
	return !FormValid(f) && holdsItself(&f, kidsOf)
}

func kidsOf(f *Form) []Form {
	return f.Kids
}

// holdsItself reports whether a tree is one of its own parts, at any level.
//
// This and the walks below are loops, because an invalid form can be deeper than a stack of calls.
func holdsItself[T any](tree *T, partsOf func(*T) []T) bool {
	// A tree is open from when its parts are put on top of it until they are done.
	open := map[*T]bool{}
	for work := []*T{tree}; len(work) > 0; {
		top := work[len(work)-1]
		if _, known := open[top]; known {
			open[top] = false
			work = work[:len(work)-1]
			continue
		}
		open[top] = true
		parts := partsOf(top)
		for i := range parts {
			part := &parts[i]
			if open[part] {
				return true
			}
			work = append(work, part)
		}
	}
	return false
}

// visitForms visits f and the forms in it, in the order of the text.
func visitForms(f Form, visit func(Form)) {
	if !endless(f) {
		visitTree(&f, kidsOf, visit)
	}
}

// visitTree visits a tree, which does not hold itself, and its parts at every level, in the order of the text.
func visitTree[T any](tree *T, partsOf func(*T) []T, visit func(T)) {
	for work := []*T{tree}; len(work) > 0; {
		top := pop(&work)
		visit(*top)
		parts := partsOf(top)
		for i := len(parts) - 1; i >= 0; i-- {
			work = append(work, &parts[i])
		}
	}
}

// changedForm returns f with each of its nodes changed, where change gives the node Scopes of its own.
func changedForm(f Form, change func(*Form)) Form {
	for work := []*Form{&f}; len(work) > 0; {
		g := pop(&work)
		change(g)
		g.Kids = append([]Form(nil), g.Kids...)
		for i := range g.Kids {
			work = append(work, &g.Kids[i])
		}
	}
	return f
}

func pop[T any](work *[]T) T {
	last := len(*work) - 1
	top := (*work)[last]
	*work = (*work)[:last]
	return top
}

// FormSame reports whether two forms are equal.
func FormSame(a Form, b Form) bool {
	// One look is enough: if a ends, so does the comparison.
	return !endless(a) && sameTrees(&a, &b, kidsOf, sameNode)
}

// sameTrees compares two trees, of which a does not hold itself, where same leaves their parts to it, but for their
// number.
func sameTrees[T any](a *T, b *T, partsOf func(*T) []T, same func(T, T) bool) bool {
	for work := [][2]*T{{a, b}}; len(work) > 0; {
		pair := pop(&work)
		if !same(*pair[0], *pair[1]) {
			return false
		}
		parts, others := partsOf(pair[0]), partsOf(pair[1])
		for i := range parts {
			work = append(work, [2]*T{&parts[i], &others[i]})
		}
	}
	return true
}

// sameNode leaves the Kids to the caller, but for their number.
func sameNode(a Form, b Form) bool {
	return a.Kind == b.Kind && a.Name == b.Name && a.N == b.N &&
		slices.Equal(a.Scopes, b.Scopes) && len(a.Kids) == len(b.Kids)
}

// FormSize returns the number of nodes of a form.
func FormSize(f Form) int {
	size := 0
	visitForms(f, func(Form) { size++ })
	return size
}

// FormatForm returns the text of a form.
func FormatForm(f Form) string {
	if !FormValid(f) {
		return ""
	}
	return string(nodeOf(f).appendText(nil))
}

// ParseForm parses the text of a form.
func ParseForm(text string) (Form, bool) {
	p := parser{rest: text}
	f, ok := p.form(p.next())
	if !ok || p.next() != "" {
		return Form{}, false
	}
	return f, true
}

// parser takes a text apart from the front.
type parser struct {
	rest string
	room room
}

// next returns the next token, which is empty at the end of the text.
func (p *parser) next() string {
	text := strings.TrimLeft(p.rest, " ")
	end := tokenEnd(text)
	p.rest = text[end:]
	return text[:end]
}

// tokenEnd returns where the token at the front of text ends: a bracket, or all that can be part of an atom.
func tokenEnd(text string) int {
	for i, r := range text {
		switch r {
		case ' ':
			return i
		case '(', ')':
			return max(i, 1)
		case '}':
			return i + 1
		}
	}
	return len(text)
}

// form parses the form that begins with token.
func (p *parser) form(token string) (Form, bool) {
	if !p.room.enter() {
		return Form{}, false
	}
	defer p.room.leave()
	if token == "(" {
		return p.list()
	}
	return parseAtom(token)
}

// list parses what is behind the opening bracket of a list.
func (p *parser) list() (Form, bool) {
	list := Form{Kind: KindList}
	for token := p.next(); token != ")"; token = p.next() {
		kid, ok := p.form(token)
		if !ok {
			return Form{}, false
		}
		list.Kids = append(list.Kids, kid)
	}
	return list, true
}

func parseAtom(token string) (Form, bool) {
	if number, ok := parseNumber(token); ok {
		return Form{Kind: KindNum, N: number}, number <= MaxNum
	}
	name, rest, dressed := strings.Cut(token, "{")
	f := Form{Kind: KindName, Name: name}
	fits := true
	if dressed {
		f.Scopes, fits = parseScopes(rest)
	}
	return f, fits && NameValid(name)
}

// parseScopes parses what is behind the `{` of a name.
func parseScopes(text string) ([]int, bool) {
	text, closed := strings.CutSuffix(text, "}")
	if !closed {
		return nil, false
	}
	var scopes []int
	for part := range strings.SplitSeq(text, ",") {
		scope, ok := parseNumber(part)
		if !ok {
			return nil, false
		}
		scopes = append(scopes, scope)
	}
	return scopes, scopesValid(scopes)
}

// parseNumber compares with the text of the number, because Atoi also accepts a sign and leading zeros.
func parseNumber(text string) (int, bool) {
	number, err := strconv.Atoi(text)
	if err != nil || number < 0 || strconv.Itoa(number) != text {
		return 0, false
	}
	return number, true
}

// NamesOf returns the names of a form, each once.
func NamesOf(f Form) []string {
	var names nameList
	visitForms(f, func(g Form) {
		if g.Kind == KindName {
			names.add(g.Name)
		}
	})
	return names.list
}

// nameList has names, each once, in the order in which they come first.
type nameList struct {
	list []string
	seen map[string]bool
}

func (n *nameList) add(name string) {
	if n.seen[name] {
		return
	}
	if n.seen == nil {
		n.seen = map[string]bool{}
	}
	n.seen[name] = true
	n.list = append(n.list, name)
}

// StripForm returns a form without its scopes.
func StripForm(f Form) Form {
	if endless(f) {
		return Form{}
	}
	return changedForm(f, func(g *Form) { g.Scopes = nil })
}

// ListForm returns a list of forms.
func ListForm(list []Form) (Form, bool) {
	f := Form{Kind: KindList, Kids: list}
	if !FormValid(f) {
		return Form{}, false
	}
	return copyForm(f), true
}

func copyForm(f Form) Form {
	return changedForm(f, func(g *Form) { g.Scopes = append([]int(nil), g.Scopes...) })
}

func copyForms(list []Form) []Form {
	return copyForm(Form{Kids: list}).Kids
}
