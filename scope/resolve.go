package scope

import "spindle/api"

// home is where a local is bound: how many ribs are around its own, and its index in that.
type home struct{ around, index int }

// homes are those of the locals 1, 2, 3 and so on, as Alpha numbers them.
type homes []home

// resolve makes each local in t a place, where so many ribs are around t.
func (h *homes) resolve(t *api.Term, around int) {
	switch t.Kind {
	case api.CLambda:
		h.bind(t.Params, around)
		around++
	case api.CSet:
		fallthrough
	case api.CLocal:
		t.N = h.place(t.N, around)
	}
	for i := range t.Kids {
		h.resolve(&t.Kids[i], around)
	}
}

// bind notes the locals of a procedure, whose own numbers are only their order from now on.
func (h *homes) bind(params []int, around int) {
	for i := range params {
		*h = append(*h, home{around, i})
		params[i] = i + 1
	}
}

// place is the number of a local's place, where so many ribs are around.
func (h *homes) place(n, around int) int {
	at := (*h)[n-1]
	up := around - 1 - at.around
	return ribSize*up + at.index
}
