package term

import (
	"slices"

	"spindle/api"
	"spindle/datum"
)

// numbers are those that a program's locals get, by those that they have.
type numbers map[int]int

// term is t, which is right, with the numbers that its locals get. The data that it quotes are shared with t.
func (n numbers) term(t api.Term) api.Term {
	t.Params = n.bind(t.Params)
	switch t.Kind {
	case api.CSet:
		fallthrough
	case api.CLocal:
		t.N = n[t.N]
	}
	t.Kids = slices.Clone(t.Kids)
	for i, kid := range t.Kids {
		t.Kids[i] = n.term(kid)
	}
	return t
}

// bind gives the next numbers to the locals of a procedure.
func (n numbers) bind(params []int) []int {
	bound := slices.Clone(params)
	for i, p := range params {
		bound[i] = len(n) + 1
		n[p] = bound[i]
	}
	return bound
}

// quoteApart is t with data that it shares with nothing. Its kids change in their place.
func quoteApart(t api.Term) api.Term {
	t.Data = datum.Copy(t.Data)
	for i, kid := range t.Kids {
		t.Kids[i] = quoteApart(kid)
	}
	return t
}

// areSame tells whether two terms have the same fields, all through.
func areSame(a, b api.Term) bool {
	return a.Kind == b.Kind && a.N == b.N && a.Name == b.Name && slices.Equal(a.Params, b.Params) &&
		areSameData(a.Data, b.Data) && slices.EqualFunc(a.Kids, b.Kids, areSame)
}

// areSameData tells whether two data have the same fields, all through.
func areSameData(a, b api.Datum) bool {
	return a.Kind == b.Kind && a.N == b.N && a.Text == b.Text && slices.EqualFunc(a.Items, b.Items, areSameData)
}
