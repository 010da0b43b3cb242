package scope_test

import (
	"errors"
	"reflect"
	"testing"

	"spindle/api"
	"spindle/scope"
	"spindle/term"
)

const (
	minInt = -1 << 63
	maxInt = 1<<63 - 1
)

// isForm tells whether an error is api.ErrForm and no other kind, with neither a place nor a name.
func isForm(e error) bool {
	var at api.At
	var about api.About
	if errors.As(e, &at) || errors.As(e, &about) {
		return false
	}
	for k := api.ErrNil; k <= api.ErrUndefined; k++ {
		if errors.Is(e, k) != (k == api.ErrForm) {
			return false
		}
	}
	return true
}

func num(n int) api.Datum               { return api.Datum{Kind: api.DInt, N: n} }
func str(s string) api.Datum            { return api.Datum{Kind: api.DStr, Text: s} }
func sym(s string) api.Datum            { return api.Datum{Kind: api.DSym, Text: s} }
func list(items ...api.Datum) api.Datum { return api.Datum{Kind: api.DList, Items: items} }
func dot(items ...api.Datum) api.Datum  { return api.Datum{Kind: api.DDot, Items: items} }
func vec(items ...api.Datum) api.Datum  { return api.Datum{Kind: api.DVec, Items: items} }

func quote(d api.Datum) api.Term       { return api.Term{Kind: api.CQuote, Data: d} }
func void() api.Term                   { return quote(api.Datum{}) }
func undef() api.Term                  { return quote(api.Datum{N: 1}) }
func local(n int) api.Term             { return api.Term{Kind: api.CLocal, N: n} }
func global(s string) api.Term         { return api.Term{Kind: api.CGlobal, Name: s} }
func set(n int, kid api.Term) api.Term { return api.Term{Kind: api.CSet, N: n, Kids: terms(kid)} }
func assign(s string, kid api.Term) api.Term {
	return api.Term{Kind: api.CAssign, Name: s, Kids: terms(kid)}
}
func define(s string, kid api.Term) api.Term {
	return api.Term{Kind: api.CDefine, Name: s, Kids: terms(kid)}
}
func cond(kids ...api.Term) api.Term  { return api.Term{Kind: api.CIf, Kids: kids} }
func begin(kids ...api.Term) api.Term { return api.Term{Kind: api.CBegin, Kids: kids} }
func call(kids ...api.Term) api.Term  { return api.Term{Kind: api.CCall, Kids: kids} }
func lambda(params []int, kids ...api.Term) api.Term {
	return api.Term{Kind: api.CLambda, Params: params, Kids: kids}
}
func rest(params []int, kid api.Term) api.Term {
	return api.Term{Kind: api.CLambda, N: 1, Params: params, Kids: terms(kid)}
}

func terms(all ...api.Term) []api.Term { return all }
func ints(all ...int) []int            { return all }

// upTo are the numbers from the first one to the last one.
func upTo(first, last int) []int {
	var all []int
	for n := first; n <= last; n++ {
		all = append(all, n)
	}
	return all
}

// times are n terms, all the same.
func times(n int, t api.Term) []api.Term {
	all := make([]api.Term, n)
	for i := range all {
		all[i] = t
	}
	return all
}

// plain is a term without lists of nothing that aren't nil.
func plain(t api.Term) api.Term {
	t.Data = plainDatum(t.Data)
	if len(t.Params) == 0 {
		t.Params = nil
	}
	var kids []api.Term
	for _, kid := range t.Kids {
		kids = append(kids, plain(kid))
	}
	t.Kids = kids
	return t
}

func plainDatum(d api.Datum) api.Datum {
	var items []api.Datum
	for _, item := range d.Items {
		items = append(items, plainDatum(item))
	}
	d.Items = items
	return d
}

// equal tells whether two terms have just the same fields.
func equal(a, b api.Term) bool { return reflect.DeepEqual(plain(a), plain(b)) }

// equalInts tells whether two lists are the same; nil and an empty one are.
func equalInts(a, b []int) bool {
	return len(a) == 0 && len(b) == 0 || reflect.DeepEqual(a, b)
}

// becomes holds what Resolve answers of a term.
func becomes(t *testing.T, x, want api.Term) {
	t.Helper()
	if got, e := scope.Resolve(x); e != nil || !equal(got, want) {
		t.Errorf("Resolve of %v = %v, %v; want %v", x, got, e, want)
	}
}

// P15.1: the chapter's example, and places of all kinds.
func TestResolve(t *testing.T) {
	a := global("a")
	for _, c := range []struct{ t, want api.Term }{
		{lambda(ints(1, 2), lambda(ints(3), call(local(2), local(3)))), lambda(ints(1, 2), lambda(ints(1), call(local(33), local(0))))},
		// The index, in the innermost rib.
		{lambda(ints(7, 3), local(7)), lambda(ints(1, 2), local(0))},
		{lambda(ints(7, 3), local(3)), lambda(ints(1, 2), local(1))},
		{lambda(ints(maxInt, 5, 1), call(local(1), local(maxInt), local(5))), lambda(ints(1, 2, 3), call(local(2), local(0), local(1)))},
		{rest(ints(9), local(9)), rest(ints(1), local(0))},
		{rest(ints(3, 2, 1), set(1, local(3))), rest(ints(1, 2, 3), set(2, local(0)))},
		// Ribs up.
		{lambda(ints(5), lambda(ints(4), call(local(5), local(4)))), lambda(ints(1), lambda(ints(1), call(local(32), local(0))))},
		{lambda(ints(1), lambda(ints(9, 2), lambda(ints(3), call(local(2), local(9), local(3), local(1))))), lambda(ints(1), lambda(ints(1, 2), lambda(ints(1), call(local(33), local(32), local(0), local(64)))))},
		{lambda(ints(1, 2, 3), begin(local(3), lambda(ints(4), local(3)), local(2))), lambda(ints(1, 2, 3), begin(local(2), lambda(ints(1), local(34)), local(1)))},
		// A procedure without Params has a rib, too.
		{lambda(nil, lambda(ints(9), lambda(nil, local(9)))), lambda(nil, lambda(ints(1), lambda(nil, local(32))))},
		{lambda(ints(9, 8), lambda(nil, lambda(nil, set(8, local(9))))), lambda(ints(1, 2), lambda(nil, lambda(nil, set(65, local(64)))))},
		{lambda(nil, a), lambda(nil, a)},
		// What is set, and what it is set to.
		{lambda(ints(5), set(5, set(5, local(5)))), lambda(ints(1), set(0, set(0, local(0))))},
		{lambda(ints(6, 5), lambda(ints(4), set(5, set(4, local(6))))), lambda(ints(1, 2), lambda(ints(1), set(33, set(0, local(32)))))},
		{lambda(ints(9), set(9, lambda(ints(8), local(9)))), lambda(ints(1), set(0, lambda(ints(1), local(32))))},
		{lambda(ints(9), set(9, lambda(ints(8), set(9, local(8))))), lambda(ints(1), set(0, lambda(ints(1), set(32, local(0)))))},
		// Ribs beside one another, and what stands behind them.
		{call(lambda(ints(4), local(4)), lambda(ints(3), local(3))), call(lambda(ints(1), local(0)), lambda(ints(1), local(0)))},
		{begin(lambda(ints(4), lambda(ints(3), local(4))), lambda(ints(2, 1), local(1))), begin(lambda(ints(1), lambda(ints(1), local(32))), lambda(ints(1, 2), local(1)))},
		{lambda(ints(9), begin(lambda(ints(8), local(8)), local(9), lambda(ints(7), local(9)), local(9))), lambda(ints(1), begin(lambda(ints(1), local(0)), local(0), lambda(ints(1), local(32)), local(0)))},
		{lambda(ints(1, 2), call(lambda(ints(3, 4), lambda(ints(5), local(4))), lambda(ints(6), local(2)), local(1))), lambda(ints(1, 2), call(lambda(ints(1, 2), lambda(ints(1), local(33))), lambda(ints(1), local(33)), local(0)))},
		// All other kinds add no rib.
		{cond(lambda(ints(6), a), lambda(ints(5), local(5)), lambda(ints(4), set(4, a))), cond(lambda(ints(1), a), lambda(ints(1), local(0)), lambda(ints(1), set(0, a)))},
		{define("a", lambda(ints(2), assign("b", local(2)))), define("a", lambda(ints(1), assign("b", local(0))))},
		{lambda(ints(2, 1), define("a", assign("b", cond(local(1), begin(call(local(2))), local(1))))), lambda(ints(1, 2), define("a", assign("b", cond(local(1), begin(call(local(0))), local(1)))))},
		{call(lambda(ints(2), cond(local(2), local(2), a)), lambda(ints(1), a)), call(lambda(ints(1), cond(local(0), local(0), a)), lambda(ints(1), a))},
	} {
		becomes(t, c.t, c.want)
	}
}

// P15.1: all else stays as it was, data that look like locals too.
func TestResolveKeeps(t *testing.T) {
	a, v := global("a"), void()
	for _, x := range []api.Term{quote(num(1)), quote(list()), quote(sym(".1")), v, undef(), a, global(".1"), assign("a", v), define("a", v), cond(a, v), cond(a, v, a), begin(a), begin(a, v, a), call(a), call(a, v, a), lambda(nil, v), lambda(ints(1), v), lambda(ints(1, 2, 3), a), rest(ints(1), v), rest(ints(1, 2), undef())} {
		becomes(t, x, x)
	}
	d := list(num(7), sym(".7"), vec(dot(sym("a"), str(".7")), list()), api.Datum{Kind: api.DChar, N: 7}, api.Datum{Kind: api.DBool, N: 1})
	becomes(t, rest(ints(8, 7), begin(quote(d), v, undef(), global(".7"), assign(".7", quote(num(7))), define("b", local(7)))), rest(ints(1, 2), begin(quote(d), v, undef(), global(".7"), assign(".7", quote(num(7))), define("b", local(1)))))
	becomes(t, quote(d), quote(d))
}

// P15.1: as many ribs as there may be, each with as many locals.
func TestDeepRibs(t *testing.T) {
	for _, size := range []int{1, 2, 23, 24} {
		// 199 procedures within one another, and a local in the innermost one.
		for up := range 199 {
			for _, index := range []int{0, size / 2, size - 1} {
				first := func(up int) int { return 1 + up*size }
				x, want := local(first(up)+index), local(32*up+index)
				for n := range 199 {
					x, want = lambda(upTo(first(n), first(n)+size-1), x), lambda(upTo(1, size), want)
				}
				becomes(t, x, want)
			}
		}
	}
	// The outermost one is named at each depth, ahead of what is within, and behind it.
	x, want := void(), void()
	for up := 90; up >= 0; up-- {
		x = lambda(ints(up+1), begin(set(1, void()), x, local(1)))
		want = lambda(ints(1), begin(set(32*up, void()), want, local(32*up)))
	}
	becomes(t, x, want)
}

// P15.1: many procedures beside one another.
func TestManyProcedures(t *testing.T) {
	var kids, want []api.Term
	for i := range 1300 {
		first := 1<<40 - 24*i
		kids = append(kids, lambda(upTo(first, first+23), set(first+i%24, local(first+23))))
		want = append(want, lambda(upTo(1, 24), set(i%24, local(23))))
	}
	becomes(t, begin(kids[:1200]...), begin(want[:1200]...))
	becomes(t, lambda(ints(1), begin(kids...)), lambda(ints(1), begin(want...)))
}

// P15.1: a number's ribs, and its index.
func TestPlace(t *testing.T) {
	for _, c := range []struct{ n, up, index int }{
		{0, 0, 0}, {1, 0, 1}, {23, 0, 23}, {24, 0, 24}, {31, 0, 31}, {32, 1, 0}, {33, 1, 1}, {63, 1, 31}, {64, 2, 0}, {100, 3, 4}, {32*198 + 23, 198, 23}, {32*200 + 23, 200, 23}, {1 << 32, 1 << 27, 0}, {1<<60 - 1, 1<<55 - 1, 31}, {maxInt, 1<<58 - 1, 31},
		{-1, 0, 0}, {-31, 0, 0}, {-32, 0, 0}, {-33, 0, 0}, {-64, 0, 0}, {-1 << 32, 0, 0}, {minInt, 0, 0}, {minInt + 1, 0, 0},
	} {
		if up, index := scope.Place(c.n); up != c.up || index != c.index {
			t.Errorf("Place(%d) = %d, %d; want %d, %d", c.n, up, index, c.up, c.index)
		}
	}
	n := 0
	for wantUp := range 300 {
		for wantIndex := range 32 {
			if up, index := scope.Place(n); up != wantUp || index != wantIndex {
				t.Fatalf("Place(%d) = %d, %d; want %d, %d", n, up, index, wantUp, wantIndex)
			}
			n++
		}
	}
	for n := -10000; n < 0; n++ {
		if up, index := scope.Place(n); up != 0 || index != 0 {
			t.Fatalf("Place(%d) = %d, %d; want 0, 0", n, up, index)
		}
	}
}

// P15.2: the locals that are set, as Alpha numbers them, each once, rising.
func TestAssigned(t *testing.T) {
	a := global("a")
	for i, c := range []struct {
		t    api.Term
		want []int
	}{
		{a, nil}, {void(), nil}, {assign("a", a), nil}, {define("a", a), nil}, {lambda(nil, a), nil}, {lambda(ints(1), local(1)), nil}, {lambda(ints(1, 2), assign("a", local(1))), nil},
		{lambda(ints(1), set(1, a)), ints(1)}, {lambda(ints(7), set(7, a)), ints(1)}, {lambda(ints(maxInt), set(maxInt, local(maxInt))), ints(1)},
		{lambda(ints(7, 3), set(3, local(7))), ints(2)}, {lambda(ints(7, 3), set(7, local(3))), ints(1)}, {rest(ints(5, 4), set(4, a)), ints(2)},
		// Each once, whatever the order.
		{lambda(ints(9), begin(set(9, a), set(9, a), local(9), set(9, set(9, a)))), ints(1)},
		{lambda(ints(1, 2, 3), begin(set(3, a), set(1, a))), ints(1, 3)}, {lambda(ints(3, 2, 1), begin(set(3, a), set(1, a))), ints(1, 3)}, {lambda(ints(30, 2, 10), begin(set(10, a), set(2, a), set(30, a), set(10, a))), ints(1, 2, 3)},
		{lambda(ints(1, 2, 3), set(3, set(2, set(1, a)))), ints(1, 2, 3)}, {lambda(ints(1, 2, 3), set(3, local(2))), ints(3)},
		// Wherever they stand.
		{lambda(ints(5), lambda(ints(4), set(5, a))), ints(1)}, {lambda(ints(5), lambda(ints(4), set(4, a))), ints(2)}, {lambda(ints(5), lambda(ints(4), lambda(ints(3), begin(set(3, a), set(5, a))))), ints(1, 3)},
		{lambda(ints(9), cond(a, set(9, a))), ints(1)}, {lambda(ints(9), cond(a, a, set(9, a))), ints(1)}, {lambda(ints(9), cond(set(9, a), a)), ints(1)}, {lambda(ints(9), call(set(9, a))), ints(1)}, {lambda(ints(9), call(a, a, set(9, a), a)), ints(1)}, {lambda(ints(9), define("a", set(9, a))), ints(1)}, {lambda(ints(9), assign("a", set(9, a))), ints(1)}, {lambda(ints(9), begin(a, begin(set(9, a)))), ints(1)},
		{lambda(ints(9), set(9, lambda(ints(8), set(8, a)))), ints(1, 2)}, {lambda(ints(9), begin(lambda(ints(8), set(8, set(9, a))), lambda(ints(7), local(7)), lambda(ints(6), set(6, a)))), ints(1, 2, 4)},
		{begin(lambda(ints(3), a), lambda(ints(1), set(1, a)), lambda(ints(2), a)), ints(2)}, {call(lambda(ints(8), set(8, a)), lambda(ints(9), a), lambda(upTo(10, 33), set(12, a))), ints(1, 5)},
	} {
		if got := scope.Assigned(c.t); !equalInts(got, c.want) {
			t.Errorf("Assigned of the term %d = %v; want %v", i, got, c.want)
		}
	}
	// As many as there may be, and the last ones first.
	var kids []api.Term
	var want []int
	for i := range 1300 {
		first := 1<<40 - 24*i
		kids = append(kids, lambda(upTo(first, first+23), set(first+i%24, a)))
		want = append(want, 24*i+i%24+1)
	}
	if got := scope.Assigned(begin(kids...)); !equalInts(got, want) {
		t.Errorf("Assigned of many = %v; want %v", got, want)
	}
	var sets []api.Term
	for n := 24; n > 0; n-- {
		sets = append(sets, set(n, a))
	}
	if got := scope.Assigned(lambda(upTo(1, 24), begin(append(sets, sets...)...))); !equalInts(got, upTo(1, 24)) {
		t.Errorf("Assigned of all = %v", got)
	}
}

// scribble changes all that stands in a term's lists, their spare room too.
func scribble(t *api.Term) {
	scribbleInts(t.Params)
	scribbleData(t.Data.Items)
	kids := t.Kids[:cap(t.Kids)]
	for i := range kids {
		scribble(&kids[i])
		kids[i] = api.Term{Kind: -99}
	}
}

func scribbleInts(l []int) {
	l = l[:cap(l)]
	for i := range l {
		l[i] = -99
	}
}

func scribbleData(items []api.Datum) {
	items = items[:cap(items)]
	for i := range items {
		scribbleData(items[i].Items)
		items[i] = api.Datum{Kind: -99}
	}
}

// P15.1, P15.2: what is answered is new memory: it shares nothing with what was handed in, and no two of its lists share any.
func TestAnswersAreNew(t *testing.T) {
	fresh := func() (api.Term, []int, []api.Datum) {
		params, items := ints(1, 2, 77), []api.Datum{sym("a"), list(sym("b"), vec(num(1))), sym("spare")}
		return lambda(params[:2], begin(quote(list(items[:2]...)), rest(ints(3), call(local(1), quote(list(items[:2]...)))), set(2, quote(items[1])))), params, items
	}
	x, params, items := fresh()
	got, e := scope.Resolve(x)
	same, _, _ := fresh()
	same.Kids[0].Kids[1].Params, same.Kids[0].Kids[1].Kids[0].Kids[0].N, same.Kids[0].Kids[2].N = ints(1), 32, 1
	if e != nil || !equal(got, same) {
		t.Fatalf("Resolve = %v, %v", got, e)
	}
	scribble(&got)
	scribbleInts(scope.Assigned(x))
	scribbleInts(scope.Free(x.Kids[0].Kids[1]))
	if want, _, _ := fresh(); !equal(x, want) || items[2].Text != "spare" || params[2] != 77 {
		t.Errorf("what was handed in shares memory with the answer: %v", x)
	}
	// One list after the other is changed in a new answer; the others stay.
	kid := rest(ints(5, 6), quote(list(sym("a"), list(sym("b")))))
	shared := begin(kid, quote(kid.Kids[0].Data), begin(kid.Kids[0], kid.Kids[0]), kid.Kids[0])
	for n := range shared.Kids {
		got, e = scope.Resolve(shared)
		if e != nil {
			t.Fatalf("Resolve = %v, %v", got, e)
		}
		scribble(&got.Kids[n])
		again, _ := scope.Resolve(shared)
		for k := range got.Kids {
			if k != n && !equal(got.Kids[k], again.Kids[k]) {
				t.Errorf("the kids %d and %d of the answer share memory", n, k)
			}
		}
	}
}

// P15.1, P15.2: what is handed in stays as it is, its spare room too, and the same is told of it again.
func TestNothingIsChanged(t *testing.T) {
	a := global("a")
	params := ints(9, 8, 77)
	items := []api.Datum{sym("b"), sym("c"), sym("spare")}
	inner := lambda(ints(5), call(local(5), local(8), local(9)))
	kids := terms(local(8), set(9, quote(list(items[:2]...))), assign("z", a), inner, global("spare"))
	x := lambda(params[:2], api.Term{Kind: api.CBegin, Kids: kids[:4]})
	for range 3 {
		becomes(t, x, lambda(ints(1, 2), begin(local(1), set(0, quote(list(sym("b"), sym("c")))), assign("z", a), lambda(ints(1), call(local(0), local(33), local(32))))))
		if got := scope.Assigned(x); !equalInts(got, ints(1)) {
			t.Errorf("Assigned: %v", got)
		}
		if got := scope.Free(x); len(got) != 0 {
			t.Errorf("Free: %v", got)
		}
		if got := scope.Free(inner); !equalInts(got, ints(8, 9)) {
			t.Errorf("Free of the inner one: %v", got)
		}
	}
	if !reflect.DeepEqual(params, ints(9, 8, 77)) || !reflect.DeepEqual(items, []api.Datum{sym("b"), sym("c"), sym("spare")}) || len(x.Params) != 2 || len(x.Kids[0].Kids) != 4 ||
		!reflect.DeepEqual(kids, terms(local(8), set(9, quote(list(items[:2]...))), assign("z", a), lambda(ints(5), call(local(5), local(8), local(9))), global("spare"))) {
		t.Errorf("the term is another one now: %v", x)
	}
}

// nestings are ways in which a term stands within a right one that has no locals of its own.
func nestings(t api.Term) []api.Term {
	a := global("a")
	return terms(t, assign("a", t), define("a", t), cond(t, a), cond(a, t), cond(a, a, t), lambda(nil, t), rest(ints(100, 101), t), lambda(ints(100), set(100, t)), begin(t), begin(a, t), call(t), call(a, t, a))
}

// refused holds that a term that isn't right is resolved to nothing, and that nothing is assigned in it.
func refused(t *testing.T, x api.Term) {
	t.Helper()
	if e := term.Check(x); e == nil {
		t.Fatalf("%v is right", x)
	}
	if got, e := scope.Resolve(x); !isForm(e) || !equal(got, api.Term{}) {
		t.Errorf("Resolve of a term of kind %d: kind %d, %v; want form", x.Kind, got.Kind, e)
	}
	if got := scope.Assigned(x); len(got) != 0 {
		t.Errorf("Assigned of a term of kind %d: %v; want none", x.Kind, got)
	}
}

// P15.1, P15.2: terms that aren't right.
func TestWrongTerms(t *testing.T) {
	a, sets := global("a"), lambda(ints(50), set(50, void()))
	for _, x := range []api.Term{
		{}, {Kind: 11}, {Kind: -1}, {Kind: minInt}, {Kind: maxInt}, {Kind: 11, Kids: terms(a)}, {Kind: api.CGlobal, N: 1, Name: "a"}, global(""), global("."), global("7"), assign("a b", a), define("", a), {Kind: api.CQuote, Name: "a"}, {Kind: api.CQuote, Kids: terms(a)}, {Kind: api.CIf, N: 1, Kids: terms(a, a)},
		quote(num(1 << 60)), quote(api.Datum{N: 2}), quote(dot(sym("a"), list())), quote(list(api.Datum{})), cond(), cond(a), cond(a, a, a, a), begin(), call(), call(times(30, a)...), lambda(nil), lambda(nil, a, a),
		local(1), local(0), local(-1), local(minInt), set(1, a), lambda(ints(1), local(2)), lambda(ints(1), set(2, a)), lambda(ints(1), set(0, a)), begin(lambda(ints(1), a), local(1)), call(local(1), lambda(ints(1), a)), {Kind: api.CSet, N: 1},
		lambda(ints(1, 1), a), lambda(ints(0), a), lambda(ints(-1), local(-1)), lambda(ints(1), lambda(ints(1), a)), begin(lambda(ints(1), a), lambda(ints(1), a)), lambda(upTo(1, 25), a), rest(nil, a), {Kind: api.CLambda, N: 2, Params: ints(1), Kids: terms(a)}, {Kind: api.CLambda, N: -1, Params: ints(1), Kids: terms(a)},
		begin(times(4000, a)...), begin(times(1<<16, a)...),
	} {
		for _, y := range nestings(x) {
			refused(t, y)
		}
		refused(t, begin(sets, x))
		refused(t, begin(x, sets))
		refused(t, lambda(ints(51), begin(set(51, a), x, sets)))
	}
}

// P15.1, P15.2: what is right up to its bounds, and not beyond.
func TestBounds(t *testing.T) {
	sets := lambda(ints(1), set(1, void()))
	for n := 3995; n <= 4005; n++ {
		x := begin(append(times(n-4, local(7)), sets)...)
		x = lambda(ints(7), begin(append(x.Kids[:n-5:n-5], sets)...))
		if term.Parts(x) != n {
			t.Fatalf("%d parts, not %d", term.Parts(x), n)
		}
		if n > 4000 {
			refused(t, x)
			continue
		}
		if got, e := scope.Resolve(x); e != nil || len(got.Kids[0].Kids) != n-4 || got.Kids[0].Kids[0].N != 0 {
			t.Errorf("Resolve of %d parts: %v", n, e)
		}
		if got := scope.Assigned(x); !equalInts(got, ints(2)) {
			t.Errorf("Assigned of %d parts: %v", n, got)
		}
	}
	for _, nest := range []func(api.Term) api.Term{func(x api.Term) api.Term { return begin(x) }, func(x api.Term) api.Term { return lambda(nil, x) }, func(x api.Term) api.Term { return set(7, x) }, func(x api.Term) api.Term { return call(local(7), x) }} {
		x := sets
		for n := 4; n <= 230; n++ {
			// sets has 3 terms within one another, and the outermost one comes on top.
			y := lambda(ints(7), begin(set(7, void()), local(7), x))
			if n+1 > 200 {
				refused(t, y)
			} else if got := scope.Assigned(y); !equalInts(got, ints(1, 2)) {
				t.Errorf("Assigned of %d within one another: %v", n+1, got)
			} else if _, e := scope.Resolve(y); e != nil {
				t.Errorf("Resolve of %d within one another: %v", n+1, e)
			}
			x = nest(x)
		}
	}
}

// endless are terms that are very deep, go round, or have their parts many times over.
func endless() []api.Term {
	a := global("a")
	round := begin(a, begin())
	round.Kids[1].Kids = round.Kids
	ahead := begin(begin(), local(1))
	ahead.Kids[0].Kids = ahead.Kids
	doubled := local(1)
	for range 60 {
		doubled = call(doubled, doubled)
	}
	deep, ribs := local(1), local(1)
	for n := range 1 << 16 {
		deep, ribs = set(1, deep), lambda(ints(n+2), ribs)
	}
	return terms(round, ahead, doubled, deep, ribs, begin(times(1<<20, a)...), begin(times(1000, begin(times(1<<16, local(1))...))...))
}

// P15.1, P15.2: all calls end.
func TestEndlessTerms(t *testing.T) {
	for i, x := range endless() {
		refused(t, x)
		refused(t, lambda(ints(1), x))
		refused(t, lambda(ints(1), begin(set(1, void()), x)))
		for _, y := range terms(x, lambda(nil, x), lambda(ints(1<<40), x, local(1)), lambda(nil, local(1), x)) {
			if got := scope.Free(y); len(got) != 0 {
				t.Errorf("Free of the term %d: %v", i, got)
			}
		}
	}
}
