package scope_test

import (
	"slices"
	"testing"

	"spindle/api"
	"spindle/scope"
	"spindle/term"
)

// dice are numbers that come the same way each time.
type dice uint64

func (d *dice) below(n int) int {
	*d = *d*6364136223846793005 + 1442695040888963407
	return int(uint64(*d) >> 33 % uint64(n))
}

// maker makes right programs: the locals that are around, and how many there were.
type maker struct {
	*dice
	around []int
	met    int
	number func(n int) int // of the local that is met as the n-th one
}

func (m *maker) name() string { return []string{"a", "b", "set!", ".1", "+"}[m.below(5)] }

func (m *maker) datum() api.Datum {
	return []api.Datum{{}, {N: 1}, num(m.below(5) - 2), sym(".1"), list(sym("a"), num(1)), vec(str("a")), dot(sym("a"), sym("b")), list()}[m.below(8)]
}

// params are new locals of a procedure.
func (m *maker) params(n int) []int {
	var all []int
	for range n {
		m.met++
		all = append(all, m.number(m.met))
	}
	return all
}

func (m *maker) term(depth int) api.Term {
	if len(m.around) > 0 && m.below(3) == 0 {
		n := m.around[m.below(len(m.around))]
		if depth == 0 || m.below(2) == 0 {
			return local(n)
		}
		return set(n, m.term(depth-1))
	}
	if depth == 0 {
		return []api.Term{global(m.name()), quote(m.datum())}[m.below(2)]
	}
	switch m.below(9) {
	case 0:
		return quote(m.datum())
	case 1:
		return assign(m.name(), m.term(depth-1))
	case 2:
		return define(m.name(), m.term(depth-1))
	case 3:
		return cond(m.terms(2+m.below(2), depth-1)...)
	case 4:
		return begin(m.terms(1+m.below(3), depth-1)...)
	case 5:
		return call(m.terms(1+m.below(4), depth-1)...)
	}
	params := m.params(m.below(4))
	ahead := len(m.around)
	m.around = append(m.around, params...)
	x := lambda(params, m.term(depth-1))
	m.around = m.around[:ahead]
	x.N = m.below(1 + min(1, len(params)))
	return x
}

func (m *maker) terms(n, depth int) []api.Term {
	var all []api.Term
	for range n {
		all = append(all, m.term(depth))
	}
	return all
}

// program is a right program, whose locals are numbered by number; the same of the same seed, but for that.
func program(seed uint64, depth int, number func(n int) int) api.Term {
	d := dice(seed)
	d.below(7)
	m := maker{dice: &d, number: number}
	return m.term(depth)
}

func inOrder(n int) int   { return n }
func backwards(n int) int { return 1<<30 - n }
func scattered(n int) int { return 1 + n*7919%1000003 }

// named is a program whose locals are places, with a number of its own for each local again: the next ones behind met.
func named(t api.Term, ribs [][]int, met *int) (api.Term, bool) {
	ok := true
	switch t.Kind {
	case api.CLocal, api.CSet:
		up, index := t.N/32, t.N%32
		if t.N < 0 || up >= len(ribs) || index >= len(ribs[len(ribs)-1-up]) {
			return t, false
		}
		t.N = ribs[len(ribs)-1-up][index]
	case api.CLambda:
		own := []int{}
		for i, p := range t.Params {
			ok = ok && p == i+1
			*met += 3
			own = append(own, *met)
		}
		t.Params = own
		ribs = append(slices.Clone(ribs), own)
	}
	kids := t.Kids
	t.Kids = nil
	for _, kid := range kids {
		kid, fine := named(kid, ribs, met)
		ok = ok && fine
		t.Kids = append(t.Kids, kid)
	}
	return t, ok
}

// way is a term, and the terms around it within a term, the outermost one first.
type way []api.Term

// eachWay hands the way to each part of the last one to visit.
func (w way) eachWay(visit func(way)) {
	visit(w)
	for _, kid := range w[len(w)-1].Kids {
		append(w[:len(w):len(w)], kid).eachWay(visit)
	}
}

// freeOf is what is free of a procedure, as the chapter's words say.
func freeOf(t api.Term) []int {
	var all []int
	way{t}.eachWay(func(w way) {
		at := w[len(w)-1]
		if at.Kind != api.CLocal && at.Kind != api.CSet {
			return
		}
		for _, around := range w[:len(w)-1] {
			if around.Kind == api.CLambda && slices.Contains(around.Params, at.N) {
				return
			}
		}
		all = append(all, at.N)
	})
	slices.Sort(all)
	return slices.Compact(all)
}

// assignedOf is what is assigned in a program that Alpha made, number by number.
func assignedOf(t api.Term) []int {
	sets := map[int]int{}
	most := 0
	way{t}.eachWay(func(w way) {
		at := w[len(w)-1]
		for _, p := range at.Params {
			most = max(most, p)
		}
		if at.Kind == api.CSet {
			sets[at.N]++
		}
	})
	var all []int
	for n := 0; n <= most; n++ {
		if sets[n] > 0 {
			all = append(all, n)
		}
	}
	return all
}

// P15.1 to P15.3: scattered programs, whose locals are numbered in several ways.
func TestScatteredPrograms(t *testing.T) {
	set, took := 0, 0
	for seed := range uint64(6000) {
		depth := int(seed % 9)
		x := program(seed, depth, inOrder)
		want, e := scope.Resolve(x)
		if e != nil {
			t.Fatalf("Resolve of %v: %v", x, e)
		}
		met := 100
		if again, ok := named(want, nil, &met); !ok || !term.Same(again, x) {
			t.Fatalf("Resolve of %v = %v", x, want)
		}
		alpha, _ := term.Alpha(x)
		assigned := assignedOf(alpha)
		set += len(assigned)
		for _, number := range []func(int) int{inOrder, backwards, scattered} {
			y := program(seed, depth, number)
			if got, e := scope.Resolve(y); e != nil || !equal(got, want) {
				t.Fatalf("Resolve of %v = %v, %v; want %v", y, got, e, want)
			}
			if got := scope.Assigned(y); !equalInts(got, assigned) {
				t.Fatalf("Assigned of %v = %v; want %v", y, got, assigned)
			}
			way{y}.eachWay(func(w way) {
				at := w[len(w)-1]
				var free []int
				if at.Kind == api.CLambda {
					free = freeOf(at)
				}
				took += len(free)
				if got := scope.Free(at); !equalInts(got, free) {
					t.Fatalf("Free of %v = %v; want %v", at, got, free)
				}
			})
			if got := scope.Free(y); len(got) != 0 {
				t.Fatalf("Free of %v = %v; want none", y, got)
			}
		}
	}
	if set < 1000 || took < 1000 {
		t.Errorf("%d locals were set, %d free", set, took)
	}
}

// P15.3: other programs are resolved otherwise.
func TestOthersAreResolvedOtherwise(t *testing.T) {
	ahead := void()
	for seed := range uint64(20000) {
		x := program(seed, int(seed%5), inOrder)
		a, _ := scope.Resolve(ahead)
		b, e := scope.Resolve(x)
		if e != nil || equal(a, b) != term.Same(ahead, x) {
			t.Fatalf("Resolve of %v and of %v: %v, %v, %v", ahead, x, a, b, e)
		}
		ahead = x
	}
}

// clash changes numbers of a program, so that locals are bound twice, or nowhere, or by what is no procedure.
func (d *dice) clash(t *api.Term) {
	if d.below(4) == 0 {
		t.N = d.below(6) - 1
	}
	for i := range t.Params {
		t.Params[i] = d.below(6) - 1
	}
	switch d.below(12) {
	case 0:
		t.Params = ints(d.below(5))
	case 1:
		t.Kids = append(t.Kids, local(d.below(5)), set(d.below(5), local(d.below(5))))
	case 2:
		t.Kind = d.below(12)
	}
	for i := range t.Kids {
		d.clash(&t.Kids[i])
	}
}

// P15.2: what is free of terms that aren't right.
func TestFreeOfScatteredTerms(t *testing.T) {
	d := dice(15)
	took := 0
	for seed := range uint64(20000) {
		x := program(seed, 1+d.below(6), inOrder)
		d.clash(&x)
		x = lambda(ints(d.below(4)), x)
		want := freeOf(x)
		took += len(want)
		if got := scope.Free(x); !equalInts(got, want) {
			t.Fatalf("Free of %v = %v; want %v", x, got, want)
		}
	}
	if took < 10000 {
		t.Errorf("%d locals were free", took)
	}
}
