package term_test

import (
	"reflect"
	"strings"
	"testing"

	"spindle/api"
	"spindle/term"
)

// plain is a term without lists of nothing that aren't nil.
func plain(t api.Term) api.Term {
	t.Data = plainDatum(t.Data)
	if len(t.Params) == 0 {
		t.Params = nil
	}
	var kids []api.Term
	for _, kid := range t.Kids {
		kids = append(kids, plain(kid))
	}
	t.Kids = kids
	return t
}

func plainDatum(d api.Datum) api.Datum {
	var items []api.Datum
	for _, item := range d.Items {
		items = append(items, plainDatum(item))
	}
	d.Items = items
	return d
}

// equal tells whether two terms have just the same fields.
func equal(a, b api.Term) bool { return reflect.DeepEqual(plain(a), plain(b)) }

// becomes holds what Alpha answers of a term, and that the two are the same.
func becomes(t *testing.T, x, want api.Term) {
	t.Helper()
	got, e := term.Alpha(x)
	if e != nil || !equal(got, want) {
		t.Errorf("Alpha = %v, %v; want %v", got, e, want)
	}
	if again, e := term.Alpha(got); e != nil || !equal(again, want) {
		t.Errorf("Alpha of Alpha = %v, %v; want %v", again, e, want)
	}
	if !term.Same(x, want) || !term.Same(want, x) || !term.Same(x, x) {
		t.Errorf("%v and %v aren't the same", x, want)
	}
	if e := term.Check(got); e != nil {
		t.Errorf("Check of Alpha: %v", e)
	}
}

// P10.2: locals are numbered from the front, Params ahead of what is in their Kid, Kids in order.
func TestAlpha(t *testing.T) {
	a, b := global("a"), global("b")
	for _, c := range []struct{ t, want api.Term }{
		{lambda(ints(7, 3), local(3)), lambda(ints(1, 2), local(2))},
		{lambda(ints(7, 3), local(7)), lambda(ints(1, 2), local(1))},
		{lambda(ints(2, 1), call(local(1), local(2))), lambda(ints(1, 2), call(local(2), local(1)))},
		{lambda(ints(maxInt), local(maxInt)), lambda(ints(1), local(1))},
		{rest(ints(9), local(9)), rest(ints(1), local(1))},
		{rest(ints(3, 2, 1), set(1, local(3))), rest(ints(1, 2, 3), set(3, local(1)))},
		{lambda(ints(5), set(5, set(5, local(5)))), lambda(ints(1), set(1, set(1, local(1))))},
		{lambda(ints(5), lambda(ints(4), call(local(5), local(4)))), lambda(ints(1), lambda(ints(2), call(local(1), local(2))))},
		{lambda(ints(1), lambda(ints(9, 2), lambda(ints(3), call(local(2), local(9), local(3), local(1))))), lambda(ints(1), lambda(ints(2, 3), lambda(ints(4), call(local(3), local(2), local(4), local(1)))))},
		{call(lambda(ints(4), local(4)), lambda(ints(3), local(3))), call(lambda(ints(1), local(1)), lambda(ints(2), local(2)))},
		{begin(lambda(ints(4), lambda(ints(3), local(4))), lambda(ints(2), local(2))), begin(lambda(ints(1), lambda(ints(2), local(1))), lambda(ints(3), local(3)))},
		{cond(lambda(ints(6), a), lambda(ints(5), local(5)), lambda(ints(4), set(4, b))), cond(lambda(ints(1), a), lambda(ints(2), local(2)), lambda(ints(3), set(3, b)))},
		{lambda(ints(9), begin(lambda(ints(8), local(8)), local(9), lambda(ints(7), local(9)))), lambda(ints(1), begin(lambda(ints(2), local(2)), local(1), lambda(ints(3), local(1))))},
		{lambda(ints(9), set(9, lambda(ints(8), local(9)))), lambda(ints(1), set(1, lambda(ints(2), local(1))))},
		{lambda(nil, lambda(ints(9), lambda(nil, local(9)))), lambda(nil, lambda(ints(1), lambda(nil, local(1))))},
		{define("a", lambda(ints(2), assign("b", local(2)))), define("a", lambda(ints(1), assign("b", local(1))))},
		{call(lambda(ints(2), cond(local(2), local(2), b)), lambda(ints(1), a)), call(lambda(ints(1), cond(local(1), local(1), b)), lambda(ints(2), a))},
	} {
		becomes(t, c.t, c.want)
	}
	numbers := upTo(100, 123)
	becomes(t, lambda(numbers, call(local(100), local(123), local(111))), lambda(upTo(1, 24), call(local(1), local(24), local(12))))
}

// P10.2: all else stays as it was, data that look like locals too.
func TestAlphaKeeps(t *testing.T) {
	for _, x := range oneOfEach() {
		if x.Kind != api.CLambda {
			becomes(t, x, x)
		}
	}
	d := list(num(7), sym(".7"), vec(dot(sym("a"), str(".7")), list()), api.Datum{Kind: api.DChar, N: 7}, api.Datum{Kind: api.DBool, N: 1})
	becomes(t, lambda(ints(7), begin(quote(d), void(), undef(), global(".7"), assign(".7", quote(num(7))), define("b", local(7)))), lambda(ints(1), begin(quote(d), void(), undef(), global(".7"), assign(".7", quote(num(7))), define("b", local(1)))))
	becomes(t, quote(d), quote(d))
}

// P10.2: many locals, in procedures within and beside one another.
func TestManyLocals(t *testing.T) {
	for _, turned := range []bool{false, true} {
		var kids, want []api.Term
		for i := range 1300 {
			first := 24*i + 1
			old := upTo(first, first+23)
			if turned {
				for k := range old {
					old[k] = 1<<40 - old[k]
				}
			}
			kids = append(kids, lambda(old, set(old[i%24], local(old[23]))))
			want = append(want, lambda(upTo(first, first+23), set(first+i%24, local(first+23))))
		}
		becomes(t, begin(kids...), begin(want...))
	}
	x, want := local(1<<20), local(1)
	for n := 198; n >= 0; n-- {
		x, want = lambda(ints(1<<20-n), x), lambda(ints(n+1), want)
	}
	becomes(t, x, want)
}

// P10.2: what differs isn't the same.
func TestNotSame(t *testing.T) {
	a, b, v := global("a"), global("b"), void()
	all := append(oneOfEach(), b, assign("b", void()), assign("a", undef()), define("b", void()), define("a", a), cond(v, a), cond(a, a, a), begin(v, a, a), begin(a, a), call(a, a), call(v), call(a, v), begin(a, v),
		quote(num(2)), quote(vec()), quote(str("a")), quote(sym("b")), quote(list(sym("a"))), quote(list(sym("a"), sym("b"))), quote(list(list(sym("b")))), quote(list(list(sym("c")))), quote(dot(sym("a"), sym("b"))), quote(vec(sym("a"), sym("b"))), quote(api.Datum{Kind: api.DChar, N: 1}), quote(api.Datum{Kind: api.DBool, N: 1}), quote(str("")),
		lambda(ints(1), v), lambda(ints(1, 2), v), rest(ints(1), v), rest(ints(1, 2), v), lambda(nil, a), lambda(ints(1, 2), local(1)), rest(ints(1, 2, 3), local(3)), rest(ints(1, 2, 3), local(1)), lambda(ints(1, 2, 3), local(2)), rest(ints(1, 2), local(2)),
		lambda(ints(1, 2), set(1, local(2))), lambda(ints(1, 2), set(2, local(1))), lambda(ints(1, 2), set(1, local(1))), lambda(ints(1), lambda(ints(2), local(1))), lambda(ints(1), lambda(ints(2), local(2))), lambda(ints(1), set(1, undef())),
		begin(lambda(ints(1), local(1)), lambda(ints(2), v)), begin(lambda(ints(1), v), lambda(ints(2), local(2))))
	for i, x := range all {
		for k, y := range all {
			if got := term.Same(x, y); got != (i == k) {
				t.Errorf("Same of %v and %v: %v", x, y, got)
			}
		}
	}
}

// P10.2: a term that isn't right is the same as nothing, not even what it would become.
func TestWrongIsNotSame(t *testing.T) {
	a := global("a")
	for _, x := range []api.Term{{}, local(1), lambda(ints(1), local(2)), lambda(ints(1, 1), a), begin(), {Kind: api.CGlobal, N: 1, Name: "a"}, global("."), quote(num(1 << 60)), cond(a), begin(lambda(ints(1), a), lambda(ints(1), a))} {
		wrong(t, x)
		for _, y := range oneOfEach() {
			if term.Same(x, y) || term.Same(y, x) {
				t.Errorf("Same of %v and %v", x, y)
			}
		}
	}
	if term.Same(lambda(ints(1), begin(a, local(2))), lambda(ints(2), begin(a, local(1)))) {
		t.Errorf("two terms that aren't right are the same")
	}
}

// scribble changes all that stands in a term's lists, their spare room too.
func scribble(t *api.Term) {
	params := t.Params[:cap(t.Params)]
	for i := range params {
		params[i] = -99
	}
	scribbleData(t.Data.Items)
	kids := t.Kids[:cap(t.Kids)]
	for i := range kids {
		scribble(&kids[i])
		kids[i] = api.Term{Kind: -99}
	}
}

func scribbleData(items []api.Datum) {
	items = items[:cap(items)]
	for i := range items {
		scribbleData(items[i].Items)
		items[i] = api.Datum{Kind: -99}
	}
}

// P10.2: what is answered is new memory: it shares nothing with what was handed in, and no two of its lists share any.
func TestAlphaIsNew(t *testing.T) {
	fresh := func() (api.Term, []api.Datum) {
		items := []api.Datum{sym("a"), list(sym("b"), vec(num(1))), sym("spare")}
		return lambda(ints(1, 2), begin(quote(list(items[:2]...)), rest(ints(3), call(local(1), quote(list(items[:2]...)))), set(2, quote(items[1])))), items
	}
	x, items := fresh()
	got, e := term.Alpha(x)
	if e != nil || !equal(got, x) {
		t.Fatalf("Alpha = %v, %v", got, e)
	}
	scribble(&got)
	if want, _ := fresh(); !equal(x, want) || items[2].Text != "spare" {
		t.Errorf("what was handed in shares memory with the answer: %v", x)
	}
	// One list after the other is changed in a new answer; the others stay.
	d, same := list(sym("a"), list(sym("b"))), list(sym("a"), list(sym("b")))
	shared := begin(times(3, quote(d))...)
	shared.Kids = append(shared.Kids, begin(shared.Kids...))
	got, e = term.Alpha(shared)
	if e != nil || !equal(got, shared) {
		t.Fatalf("Alpha = %v, %v", got, e)
	}
	scribble(&got.Kids[0])
	scribble(&got.Kids[2])
	if !equal(got.Kids[1], quote(same)) || !equal(got.Kids[3], begin(times(3, quote(same))...)) || !equal(shared.Kids[0], quote(same)) {
		t.Errorf("lists of the answer share memory: %v", got)
	}
}

// P10.1 to P10.4: what is handed in stays as it is, its spare room too, and the same is told of it again.
func TestNothingIsChanged(t *testing.T) {
	a := global("a")
	params := ints(9, 8, 77)
	items := []api.Datum{sym("b"), sym("c"), sym("spare")}
	kids := terms(local(8), set(9, quote(api.Datum{Kind: api.DList, Items: items[:2]})), assign("z", a), global("spare"))
	x := lambda(params[:2], api.Term{Kind: api.CBegin, Kids: kids[:3]})
	for range 3 {
		if e := term.Check(x); e != nil || term.Parts(x) != 7 {
			t.Errorf("Check: %v, Parts: %d", e, term.Parts(x))
		}
		becomes(t, x, lambda(ints(1, 2), begin(local(2), set(1, quote(list(sym("b"), sym("c")))), assign("z", a))))
		if got := strings.Join(term.Globals(x), " "); got != "a z" {
			t.Errorf("Globals: %s", got)
		}
		tells(t, x, "(lambda (.1 .2) (begin .2 (set! .1 (quote (b c))) (set! z a)))")
	}
	if !reflect.DeepEqual(params, ints(9, 8, 77)) || !reflect.DeepEqual(items, []api.Datum{sym("b"), sym("c"), sym("spare")}) || !reflect.DeepEqual(kids, terms(local(8), set(9, quote(list(items[:2]...))), assign("z", a), global("spare"))) || len(x.Params) != 2 || len(x.Kids[0].Kids) != 3 {
		t.Errorf("the term is another one now: %v", x)
	}
}
