package term_test

import (
	"strconv"
	"strings"
	"testing"

	"spindle/api"
	"spindle/lex"
	"spindle/read"
	"spindle/show"
	"spindle/term"
)

// dice are numbers that come the same way each time.
type dice uint64

func (d *dice) below(n int) int {
	*d = *d*6364136223846793005 + 1442695040888963407
	return int(uint64(*d) >> 33 % uint64(n))
}

// maker makes right programs: the locals that are around, and how many there were.
type maker struct {
	*dice
	around []int
	met    int
	number func(n int) int // of the local that is met as the n-th one
}

func (m *maker) name() string { return []string{"a", "b", "set!", ".1", "+", "..."}[m.below(6)] }

func (m *maker) datum(depth int) api.Datum {
	switch m.below(6 + min(depth, 1)*3) {
	case 0:
		return num(m.below(5) - 2)
	case 1:
		return api.Datum{Kind: api.DBool, N: m.below(2)}
	case 2:
		return api.Datum{Kind: api.DChar, N: 'a' + m.below(3)}
	case 3:
		return str([]string{"", "a", `"`, "#void"}[m.below(4)])
	case 6:
		return list(m.datum(depth-1), m.datum(depth-1))
	case 7:
		return vec(m.datum(depth - 1))
	case 8:
		return dot(m.datum(depth-1), sym("b"))
	}
	return sym(m.name())
}

// params are new locals of a procedure.
func (m *maker) params(n int) []int {
	var all []int
	for range n {
		m.met++
		all = append(all, m.number(m.met))
	}
	return all
}

func (m *maker) term(depth int) api.Term {
	if len(m.around) > 0 && m.below(3) == 0 {
		n := m.around[m.below(len(m.around))]
		if depth == 0 || m.below(2) == 0 {
			return local(n)
		}
		return set(n, m.term(depth-1))
	}
	if depth == 0 {
		return []api.Term{void(), undef(), global(m.name()), quote(m.datum(2))}[m.below(4)]
	}
	switch m.below(9) {
	case 0:
		return quote(m.datum(3))
	case 1:
		return assign(m.name(), m.term(depth-1))
	case 2:
		return define(m.name(), m.term(depth-1))
	case 3:
		return cond(m.terms(2+m.below(2), depth-1)...)
	case 4:
		return begin(m.terms(1+m.below(3), depth-1)...)
	case 5:
		return call(m.terms(1+m.below(4), depth-1)...)
	}
	params := m.params(m.below(4))
	ahead := len(m.around)
	m.around = append(m.around, params...)
	x := lambda(params, m.term(depth-1))
	m.around = m.around[:ahead]
	x.N = m.below(1 + min(1, len(params)))
	return x
}

func (m *maker) terms(n, depth int) []api.Term {
	var all []api.Term
	for range n {
		all = append(all, m.term(depth))
	}
	return all
}

// program is a right program, whose locals are numbered by number; the same of the same seed, but for that.
func program(seed uint64, depth int, number func(n int) int) api.Term {
	d := dice(seed)
	d.below(7)
	m := maker{dice: &d, number: number}
	return m.term(depth)
}

func inOrder(n int) int   { return n }
func backwards(n int) int { return 1<<30 - n }
func scattered(n int) int { return 1 + n*7919%1000003 }

// rib are a procedure's locals, and those around it.
type rib struct {
	params []int
	up     *rib
}

// place is where a local is found, told without its number: how many procedures up, and which one there.
func (r *rib) place(n int) string {
	for up := 0; r != nil; up, r = up+1, r.up {
		for i, p := range r.params {
			if p == n {
				return strconv.Itoa(up) + "/" + strconv.Itoa(i)
			}
		}
	}
	return "nowhere"
}

// nameless is a right program as a text that tells all of it but its locals' numbers.
func nameless(t api.Term) string { return namelessIn(t, nil) }

func namelessIn(t api.Term, r *rib) string {
	text := "[" + strconv.Itoa(t.Kind) + " " + strconv.Quote(t.Name) + " " + datumText(t.Data)
	switch t.Kind {
	case api.CLocal, api.CSet:
		text += " " + r.place(t.N)
	case api.CLambda:
		text += " " + strconv.Itoa(len(t.Params)) + "+" + strconv.Itoa(t.N)
		r = &rib{params: t.Params, up: r}
	}
	for _, kid := range t.Kids {
		text += " " + namelessIn(kid, r)
	}
	return text + "]"
}

func datumText(d api.Datum) string {
	text := "<" + strconv.Itoa(d.Kind) + " " + strconv.Itoa(d.N) + " " + strconv.Quote(d.Text)
	for _, item := range d.Items {
		text += " " + datumText(item)
	}
	return text + ">"
}

// bound are all Params, in the order in which they stand in a program.
func bound(t api.Term) []int {
	all := t.Params
	for _, kid := range t.Kids {
		all = append(all[:len(all):len(all)], bound(kid)...)
	}
	return all
}

const (
	voidMark  = "<nothing-in-particular>"
	undefMark = "<no-value-yet>"
)

// datumOf is the datum whose text is that of a term that Alpha made, but for the marks.
func datumOf(t api.Term) api.Datum {
	name, items := sym(t.Name), []api.Datum{}
	switch t.Kind {
	case api.CQuote:
		switch {
		case t.Data.Kind != 0:
			return list(sym("quote"), t.Data)
		case t.Data.N == 0:
			return sym(voidMark)
		}
		return sym(undefMark)
	case api.CLocal:
		return sym("." + strconv.Itoa(t.N))
	case api.CGlobal:
		return name
	case api.CSet:
		items = append(items, sym("set!"), sym("."+strconv.Itoa(t.N)))
	case api.CAssign:
		items = append(items, sym("set!"), name)
	case api.CDefine:
		items = append(items, sym("define"), name)
	case api.CIf:
		items = append(items, sym("if"))
	case api.CLambda:
		items = append(items, sym("lambda"), paramsOf(t))
	case api.CBegin:
		items = append(items, sym("begin"))
	}
	for _, kid := range t.Kids {
		items = append(items, datumOf(kid))
	}
	return list(items...)
}

func paramsOf(t api.Term) api.Datum {
	var names []api.Datum
	for _, p := range t.Params {
		names = append(names, sym("."+strconv.Itoa(p)))
	}
	switch {
	case t.N == 0:
		return list(names...)
	case len(names) == 1:
		return names[0]
	}
	return dot(names...)
}

// isModelled holds all that is promised of a right program.
func isModelled(t *testing.T, x api.Term) {
	t.Helper()
	got, e := term.Alpha(x)
	if e != nil || nameless(got) != nameless(x) || len(bound(got)) != len(bound(x)) {
		t.Fatalf("Alpha of %v = %v, %v", x, got, e)
	}
	for i, n := range bound(got) {
		if n != i+1 {
			t.Fatalf("Alpha of %v has the locals %v", x, bound(got))
		}
	}
	if again, e := term.Alpha(got); e != nil || !equal(again, got) || !term.Same(x, got) || !term.Same(got, x) {
		t.Fatalf("Alpha of %v, which is Alpha already: %v, %v", got, again, e)
	}
	want, e := show.Write(datumOf(got))
	if e != nil {
		t.Fatalf("the text of %v: %v", got, e)
	}
	want = strings.ReplaceAll(strings.ReplaceAll(want, voidMark, "#void"), undefMark, "#undef")
	tells(t, x, want)
	tells(t, got, want)
	names := map[string]bool{}
	gather(x, names)
	globals := term.Globals(x)
	for i, name := range globals {
		if !names[name] || i > 0 && globals[i-1] >= name {
			t.Fatalf("Globals of %v: %v", x, globals)
		}
	}
	if len(globals) != len(names) || term.Parts(x) != min(size(x), 5000) {
		t.Fatalf("Globals of %v: %v; Parts: %d", x, globals, term.Parts(x))
	}
}

func gather(t api.Term, names map[string]bool) {
	if t.Kind == api.CGlobal || t.Kind == api.CAssign || t.Kind == api.CDefine {
		names[t.Name] = true
	}
	for _, kid := range t.Kids {
		gather(kid, names)
	}
}

func size(t api.Term) int {
	n := 1
	for _, kid := range t.Kids {
		n += size(kid)
	}
	return n
}

// P10.2 to P10.5: scattered programs, whose locals are numbered in several ways.
func TestScatteredPrograms(t *testing.T) {
	ahead := void()
	for seed := range uint64(4000) {
		depth := int(seed % 8)
		x := program(seed, depth, inOrder)
		isModelled(t, x)
		for _, number := range []func(int) int{backwards, scattered} {
			y := program(seed, depth, number)
			isModelled(t, y)
			a, _ := term.Alpha(x)
			b, _ := term.Alpha(y)
			if !term.Same(x, y) || !term.Same(y, x) || !equal(a, b) {
				t.Fatalf("%v and %v aren't the same", x, y)
			}
		}
		if term.Same(x, ahead) != (nameless(x) == nameless(ahead)) {
			t.Fatalf("Same of %v and %v", x, ahead)
		}
		ahead = x
	}
}

// part is a place of a program: a term of it, the one around it, and how deep it is.
type part struct {
	t     *api.Term
	up    *part
	depth int
}

// partsOf are a term's parts, from the front.
func partsOf(t *api.Term, up *part, depth int) []*part {
	p := &part{t: t, up: up, depth: depth}
	all := []*part{p}
	for i := range t.Kids {
		all = append(all, partsOf(&t.Kids[i], p, depth+1)...)
	}
	return all
}

// isIn tells whether a local is one of a procedure around a part.
func (p *part) isIn(n int) bool {
	for q := p.up; q != nil; q = q.up {
		for _, param := range q.t.Params {
			if q.t.Kind == api.CLambda && param == n {
				return true
			}
		}
	}
	return false
}

// kidsOf are the least and the most kids of a kind; -1 of what is no kind.
func kidsOf(kind int) (least, most int) {
	switch kind {
	case api.CQuote, api.CLocal, api.CGlobal:
		return 0, 0
	case api.CSet, api.CAssign, api.CDefine, api.CLambda:
		return 1, 1
	case api.CIf:
		return 2, 3
	case api.CBegin:
		return 1, maxInt
	case api.CCall:
		return 1, 29
	}
	return -1, -1
}

// mayBe tells whether a part is as the chapter's words say, but for its kids and what its Params are.
func (p *part) mayBe() bool {
	least, most := kidsOf(p.t.Kind)
	if len(p.t.Kids) < least || len(p.t.Kids) > most || p.depth > 200 {
		return false
	}
	if named := p.t.Kind == api.CGlobal || p.t.Kind == api.CAssign || p.t.Kind == api.CDefine; named != (p.t.Name != "") || named && !lex.Symbol(p.t.Name) {
		return false
	}
	if p.t.Kind != api.CQuote && !isNoDatum(p.t.Data) || p.t.Kind != api.CLambda && len(p.t.Params) > 0 {
		return false
	}
	switch p.t.Kind {
	case api.CQuote:
		voidOrUndef := p.t.Data.Kind == 0 && (p.t.Data.N == 0 || p.t.Data.N == 1) && p.t.Data.Text == "" && len(p.t.Data.Items) == 0
		return p.t.N == 0 && (voidOrUndef || read.Check(p.t.Data) == nil)
	case api.CLocal, api.CSet:
		return p.isIn(p.t.N)
	case api.CLambda:
		return len(p.t.Params) <= 24 && (p.t.N == 0 || p.t.N == 1 && len(p.t.Params) > 0)
	}
	return p.t.N == 0
}

// isProgram tells whether a term is right, as the chapter's words say, part by part.
func isProgram(t api.Term) bool {
	all := partsOf(&t, nil, 1)
	if len(all) > 4000 {
		return false
	}
	params := map[int]bool{}
	for _, p := range all {
		if !p.mayBe() {
			return false
		}
		for _, n := range p.t.Params {
			if n < 1 || params[n] {
				return false
			}
			params[n] = true
		}
	}
	return true
}

// spoil changes something of a program, which may be right then, or wrong.
func (d *dice) spoil(all []*part) {
	x, other := all[d.below(len(all))].t, all[d.below(len(all))].t
	switch d.below(12) {
	case 0:
		x.Kind = d.below(13) - 1
	case 1:
		x.N = d.below(6) - 1
	case 2:
		x.Name = []string{"", "a", ".", "7", "b c", "x"}[d.below(6)]
	case 3:
		x.Params = append(x.Params[:len(x.Params):len(x.Params)], d.below(7))
	case 4:
		x.Params = x.Params[:len(x.Params)*d.below(2)]
	case 5:
		x.Data = []api.Datum{{}, {N: 1}, {N: 2}, sym("a"), sym("."), {Text: "a"}, list(), dot(sym("a"), list())}[d.below(8)]
	case 6:
		x.Kids = append(x.Kids[:len(x.Kids):len(x.Kids)], global("a"))
	case 7:
		x.Kids = x.Kids[:len(x.Kids)*d.below(2)]
	case 8:
		x.N = other.N
	case 9:
		x.Kind, x.N, x.Data, x.Params, x.Name, x.Kids = api.CLocal, d.below(5), api.Datum{}, nil, "", nil
	case 10:
		x.Kind, x.N, x.Name = other.Kind, other.N, other.Name
	case 11:
		x.Params, other.Params = other.Params, x.Params
	}
}

// P10.1: programs of which something was changed are right, or not, as the chapter's words say.
func TestSpoiledPrograms(t *testing.T) {
	d := dice(37)
	counts := [2]int{}
	for seed := range uint64(60000) {
		x := program(seed, 1+d.below(4), inOrder)
		for range 1 + d.below(2) {
			d.spoil(partsOf(&x, nil, 1))
		}
		if isProgram(x) {
			counts[1]++
			if e := term.Check(x); e != nil {
				t.Fatalf("Check of %v: %v", x, e)
			}
			if got, e := term.Alpha(x); e != nil || nameless(got) != nameless(x) {
				t.Fatalf("Alpha of %v = %v, %v", x, got, e)
			}
			continue
		}
		counts[0]++
		refused(t, int(seed), x)
		if t.Failed() {
			t.Fatalf("of %v", x)
		}
	}
	if counts[0] < 20000 || counts[1] < 5000 {
		t.Errorf("%d programs were wrong, %d right", counts[0], counts[1])
	}
}
