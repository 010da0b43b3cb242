package compile_test

import (
	"reflect"
	"slices"
	"testing"

	"spindle/api"
	"spindle/code"
	"spindle/compile"
	"spindle/expand"
	"spindle/read"
	"spindle/term"
)

// dice are numbers that come the same way each time.
type dice uint64

func (d *dice) below(n int) int {
	*d = *d*6364136223846793005 + 1442695040888963407
	return int(uint64(*d) >> 33 % uint64(n))
}

// maker makes right programs: the locals that are around, and how many there were.
type maker struct {
	*dice
	around []int
	met    int
	number func(n int) int // of the local that is met as the n-th one
}

func (m *maker) name() string { return []string{"a", "b", "set!", ".1", "+"}[m.below(5)] }

func (m *maker) datum() api.Datum {
	return []api.Datum{{}, {N: 1}, num(m.below(5) - 2), sym(".1"), list(sym("a"), num(1)), vec(str("a")), dot(sym("a"), sym("b")), {Kind: api.DBool}}[m.below(8)]
}

// params are new locals of a procedure.
func (m *maker) params(n int) []int {
	var all []int
	for range n {
		m.met++
		all = append(all, m.number(m.met))
	}
	return all
}

func (m *maker) term(depth int) api.Term {
	if len(m.around) > 0 && m.below(3) == 0 {
		n := m.around[m.below(len(m.around))]
		if depth == 0 || m.below(2) == 0 {
			return local(n)
		}
		return set(n, m.term(depth-1))
	}
	if depth == 0 {
		return terms(global(m.name()), quote(m.datum()))[m.below(2)]
	}
	switch m.below(12) {
	case 0:
		return quote(m.datum())
	case 1:
		return assign(m.name(), m.term(depth-1))
	case 2:
		return define(m.name(), m.term(depth-1))
	case 3, 4:
		return cond(m.terms(2+m.below(2), depth-1)...)
	case 5, 6:
		return begin(m.terms(1+m.below(3), depth-1)...)
	case 7, 8, 9:
		return call(m.terms(1+m.below(4), depth-1)...)
	}
	params := m.params(m.below(4))
	ahead := len(m.around)
	m.around = append(m.around, params...)
	x := lambda(params, m.term(depth-1))
	m.around = m.around[:ahead]
	x.N = m.below(1 + min(1, len(params)))
	return x
}

func (m *maker) terms(n, depth int) []api.Term {
	var all []api.Term
	for range n {
		all = append(all, m.term(depth))
	}
	return all
}

// scattered is a right program, whose locals are numbered by number; the same of the same seed, but for that.
func scattered(seed uint64, depth int, number func(n int) int) api.Term {
	d := dice(seed)
	d.below(7)
	m := maker{dice: &d, number: number}
	return m.term(depth)
}

func inOrder(n int) int   { return n }
func backwards(n int) int { return 1<<30 - n }
func jumbled(n int) int   { return 1 + n*7919%1000003 }

// ribs are the locals around a term, those of the innermost procedure first.
type ribs [][]int

// place is where a local is found.
func (r ribs) place(n int) (up, index int) {
	for up, own := range r {
		if index := slices.Index(own, n); index >= 0 {
			return up, index
		}
	}
	panic("a local that nobody binds")
}

// size is how many instructions the chapter's table has for a term, its own return too.
func size(t api.Term, last bool) int {
	n, end := 0, 0
	if last {
		end = 1
	}
	switch t.Kind {
	case api.CQuote, api.CLocal, api.CGlobal, api.CLambda:
		return 1 + end
	case api.CSet, api.CAssign, api.CDefine:
		return size(t.Kids[0], false) + 1 + end
	case api.CIf:
		other := 1 + end
		if len(t.Kids) == 3 {
			other = size(t.Kids[2], last)
		}
		return size(t.Kids[0], false) + 1 + size(t.Kids[1], last) + (1 - end) + other
	case api.CBegin:
		for k, kid := range t.Kids {
			n += size(kid, last && k == len(t.Kids)-1)
		}
		return n
	}
	for _, kid := range t.Kids {
		n += size(kid, false) + 1
	}
	return n + 2 - end
}

// closed is a procedure of a program: what is around it, and where its code begins.
type closed struct {
	lambda api.Term
	around ribs
	begin  int
}

// inside adds the procedures whose closures stand in a term's own code, in their order.
func inside(all []closed, t api.Term, around ribs) []closed {
	if t.Kind == api.CLambda {
		return append(all, closed{lambda: t, around: around})
	}
	for _, kid := range t.Kids {
		all = inside(all, kid, around)
	}
	return all
}

// layout is all procedures of a program, itself as the first one, with the places where they begin: known by their sizes, ahead of any code.
func layout(t api.Term) []closed {
	all := []closed{{lambda: lambda(nil, t)}}
	begin := 0
	for k := 0; k < len(all); k++ {
		all[k].begin = begin
		body, around := all[k].lambda.Kids[0], all[k].around
		begin += size(body, true)
		if k > 0 {
			around = append(ribs{all[k].lambda.Params}, around...)
		}
		all[k].around = around
		all = inside(all, body, around)
	}
	return all
}

// places says where the closures' procedures begin, as they are met from the front.
type places []int

// code is that of a term which begins at a place.
func (p *places) code(t api.Term, last bool, at int, around ribs) []api.Instr {
	var l []api.Instr
	here := func() int { return at + len(l) }
	kid := func(n int, last bool) { l = append(l, p.code(t.Kids[n], last, here(), around)...) }
	own := api.Instr{Name: t.Name}
	switch t.Kind {
	case api.CIf:
		kid(0, false)
		l = append(l, api.Instr{Op: api.IUnless})
		unless := &l[len(l)-1]
		unless.A = here() + size(t.Kids[1], last)
		if !last {
			unless.A++
		}
		kid(1, last)
		if !last {
			l = append(l, api.Instr{Op: api.IJump, A: at + size(t, false)})
		}
		if len(t.Kids) == 3 {
			kid(2, last)
			return l
		}
		return append(l, p.code(void(), last, here(), around)...)
	case api.CBegin:
		for k := range t.Kids {
			kid(k, last && k == len(t.Kids)-1)
		}
		return l
	case api.CCall:
		if !last {
			l = append(l, api.Instr{Op: api.IFrame, A: at + size(t, false)})
		}
		for k := range t.Kids {
			kid(k, false)
			l = append(l, api.Instr{Op: api.IPush})
		}
		if last {
			return append(l, api.Instr{Op: api.ITail, A: len(t.Kids) - 1})
		}
		return append(l, api.Instr{Op: api.ICall, A: len(t.Kids) - 1})
	case api.CQuote:
		own.Op, own.Data = api.IConst, t.Data
	case api.CLocal:
		own.Op = api.ILocal
		own.A, own.B = around.place(t.N)
	case api.CGlobal:
		own.Op = api.IGlobal
	case api.CSet:
		kid(0, false)
		own.Op = api.ISet
		own.A, own.B = around.place(t.N)
	case api.CAssign:
		kid(0, false)
		own.Op = api.IAssign
	case api.CDefine:
		kid(0, false)
		own.Op = api.IDefine
	case api.CLambda:
		own.Op, own.A, own.B = api.IClosure, (*p)[0], 2*len(t.Params)+t.N
		*p = (*p)[1:]
	}
	if last {
		return append(l, own, api.Instr{Op: api.IReturn})
	}
	return append(l, own)
}

// model is a program's code, worked out by sizes alone.
func model(t api.Term) []api.Instr {
	var l []api.Instr
	all := layout(t)
	var p places
	for _, c := range all[1:] {
		p = append(p, c.begin)
	}
	for _, c := range all {
		l = append(l, p.code(c.lambda.Kids[0], true, len(l), c.around)...)
	}
	return l
}

// shownCode is code's text, or how that begins.
func shownCode(l []api.Instr) string {
	text, _ := code.Text(l)
	return text[:min(len(text), 300)]
}

// goesWell holds what the promises say of a program's code, and of where its calls stand.
func goesWell(t *testing.T, x api.Term, l []api.Instr) {
	t.Helper()
	if e := code.Check(l); e != nil {
		t.Fatalf("Compile of %s is no code", shown(x))
	}
	stacks, e := code.Stacks(l)
	if e != nil {
		t.Fatalf("Compile of %s doesn't go well: %v", shown(x), e)
	}
	for at, i := range l {
		// No place is left out; a call that is last leaves no frame open.
		if len(stacks[at]) == 0 {
			t.Fatalf("Compile of %s: it doesn't come to the place %d", shown(x), at)
		}
		if i.Op == api.ITail && len(stacks[at]) != 1 {
			t.Fatalf("Compile of %s: the tail at %d leaves frames open", shown(x), at)
		}
	}
}

// P17.1, P17.2: scattered programs, whose locals are numbered in several ways.
func TestScatteredPrograms(t *testing.T) {
	met := map[int]int{}
	for seed := range uint64(8000) {
		depth := int(seed % 9)
		x := scattered(seed, depth, inOrder)
		want := model(x)
		for _, number := range []func(int) int{inOrder, backwards, jumbled} {
			y := scattered(seed, depth, number)
			if term.Check(y) != nil || !term.Same(x, y) {
				t.Fatalf("%s is made wrongly", shown(y))
			}
			got, e := compile.Compile(y)
			if e != nil || !reflect.DeepEqual(got, want) {
				t.Fatalf("Compile of %s = %s, %v; want %s", shown(y), shownCode(got), e, shownCode(want))
			}
			if n := compile.Length(y); n != len(want) {
				t.Fatalf("Length of %s = %d; want %d", shown(y), n, len(want))
			}
		}
		goesWell(t, x, want)
		for _, i := range want {
			met[i.Op]++
		}
	}
	for op := api.IConst; op <= api.IReturn; op++ {
		if met[op] < 1000 {
			t.Errorf("only %d instructions with the operation %d", met[op], op)
		}
	}
}

// P17.1: others in which what is a list of nothing isn't nil.
func TestEmptyLists(t *testing.T) {
	none := api.Datum{Items: []api.Datum{}}
	x := api.Term{Kind: api.CBegin, Params: []int{}, Data: none, Kids: terms(
		api.Term{Kind: api.CQuote, Data: api.Datum{N: 1, Items: []api.Datum{}}, Params: []int{}, Kids: []api.Term{}},
		api.Term{Kind: api.CLambda, Params: []int{}, Data: none, Kids: terms(api.Term{Kind: api.CGlobal, Name: "a", Data: none, Kids: []api.Term{}})},
		api.Term{Kind: api.CQuote, Data: list([]api.Datum{}...)})}
	becomes(t, x, "const #undef; closure 4 0; const (); return; global a; return")
}

// P17.1, P17.2: forms that the system expands.
func TestExpandedForms(t *testing.T) {
	forms, e := read.All(`
		(define (f n) (if (= n 0) 'done (f (- n 1))))
		(lambda (t) (or #f t))
		(define (map f l) (cond ((null? l) '()) (else (let ((x (f (car l)))) (cons x (map f (cdr l)))))))
		(let loop ((i 0) (sum 0)) (if (< i 10) (loop (+ i 1) (+ sum i)) sum))
		(define (g . r) (define a 1) (define (b) (and a (b) r)) (begin (set! a 2) (b)))
		(call/cc (lambda (k) (+ 1 (k 5))))
		` + "`(1 ,x ,@y)")
	if e != nil {
		t.Fatal(e)
	}
	system := expand.New()
	for _, d := range forms {
		x, e := system.Expand(d)
		if e != nil {
			t.Fatal(e)
		}
		got, e := compile.Compile(x)
		if want := model(x); e != nil || !reflect.DeepEqual(got, want) {
			t.Errorf("Compile of %s = %s, %v; want %s", shown(x), shownCode(got), e, shownCode(want))
		}
		goesWell(t, x, got)
	}
}
