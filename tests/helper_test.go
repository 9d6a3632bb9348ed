package tests

import (
	"fmt"
	"slices"
	"testing"

	"loop.example/macroexpander/impl"
)

func parse(t *testing.T, text string) impl.Form {
	t.Helper()
	f, ok := impl.ParseForm(text)
	if !ok {
		t.Fatalf("ParseForm(%q) returns false", text)
	}
	return f
}

func nameForm(name string, scopes ...int) impl.Form {
	return impl.Form{Kind: impl.KindName, Name: name, Scopes: scopes}
}

func numForm(n int) impl.Form {
	return impl.Form{Kind: impl.KindNum, N: n}
}

func listForm(kids ...impl.Form) impl.Form {
	return impl.Form{Kind: impl.KindList, Kids: kids}
}

// nested returns a form with so many nodes, each of them a list of the next one.
func nested(depth int) impl.Form {
	f := listForm()
	for range depth - 1 {
		f = listForm(f)
	}
	return f
}

// wide returns a list with so many nodes, itself and names.
func wide(nodes int) impl.Form {
	f := listForm()
	for range nodes - 1 {
		f.Kids = append(f.Kids, nameForm("x"))
	}
	return f
}

// scopesUpTo returns the scopes from 1 to n.
func scopesUpTo(n int) []int {
	var scopes []int
	for i := range n {
		scopes = append(scopes, i+1)
	}
	return scopes
}

// selfHolding returns a form that is one of its own Kids.
func selfHolding() impl.Form {
	kids := []impl.Form{nameForm("x", 1), listForm(), nameForm("y")}
	kids[1].Kids = kids
	return listForm(kids...)
}

// isZero is true for nil and for empty slices.
func isZero(f impl.Form) bool {
	return f.Kind == 0 && f.Name == "" && f.N == 0 && len(f.Scopes) == 0 && len(f.Kids) == 0
}

// spoil overwrites all memory that f has, with its unused capacity.
func spoil(f impl.Form) {
	scopes := f.Scopes[:cap(f.Scopes)]
	for i := range scopes {
		scopes[i] = 77
	}
	kids := f.Kids[:cap(f.Kids)]
	for i := range kids {
		spoil(kids[i])
		kids[i] = numForm(777)
	}
}

// roomyCopy returns f where every slice has unused capacity, in which there are further values.
func roomyCopy(f impl.Form) impl.Form {
	scopes := append(slices.Clone(f.Scopes), 55, 66)
	var kids []impl.Form
	for _, kid := range f.Kids {
		kids = append(kids, roomyCopy(kid))
	}
	kids = append(kids, numForm(8), nameForm("beyond", 9))
	f.Scopes, f.Kids = scopes[:len(f.Scopes)], kids[:len(f.Kids)]
	return f
}

// memoryOfForm returns a text of all memory of a form, with its unused capacity.
func memoryOfForm(f impl.Form) string {
	text := fmt.Sprint(f.Kind, f.Name, f.N, f.Scopes[:cap(f.Scopes)], len(f.Scopes), len(f.Kids))
	for _, kid := range f.Kids[:cap(f.Kids)] {
		text += "(" + memoryOfForm(kid) + ")"
	}
	return text
}

// parseAll returns the forms in the list with this text.
func parseAll(t *testing.T, text string) []impl.Form {
	t.Helper()
	return parse(t, text).Kids
}

func textOf(forms []impl.Form) string {
	return impl.FormatForm(listForm(forms...))
}

func spoilForms(forms []impl.Form) {
	spoil(listForm(forms...))
}
