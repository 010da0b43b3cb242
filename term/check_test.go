package term_test

import (
	"errors"
	"strings"
	"testing"

	"spindle/api"
	"spindle/lex"
	"spindle/read"
	"spindle/term"
)

const (
	minInt = -1 << 63
	maxInt = 1<<63 - 1
)

// isForm tells whether an error is api.ErrForm and no other kind, with neither a place nor a name.
func isForm(e error) bool {
	var at api.At
	var about api.About
	if errors.As(e, &at) || errors.As(e, &about) {
		return false
	}
	for k := api.ErrNil; k <= api.ErrUndefined; k++ {
		if errors.Is(e, k) != (k == api.ErrForm) {
			return false
		}
	}
	return true
}

func num(n int) api.Datum               { return api.Datum{Kind: api.DInt, N: n} }
func str(s string) api.Datum            { return api.Datum{Kind: api.DStr, Text: s} }
func sym(s string) api.Datum            { return api.Datum{Kind: api.DSym, Text: s} }
func list(items ...api.Datum) api.Datum { return api.Datum{Kind: api.DList, Items: items} }
func dot(items ...api.Datum) api.Datum  { return api.Datum{Kind: api.DDot, Items: items} }
func vec(items ...api.Datum) api.Datum  { return api.Datum{Kind: api.DVec, Items: items} }

func quote(d api.Datum) api.Term       { return api.Term{Kind: api.CQuote, Data: d} }
func void() api.Term                   { return quote(api.Datum{}) }
func undef() api.Term                  { return quote(api.Datum{N: 1}) }
func local(n int) api.Term             { return api.Term{Kind: api.CLocal, N: n} }
func global(s string) api.Term         { return api.Term{Kind: api.CGlobal, Name: s} }
func set(n int, kid api.Term) api.Term { return api.Term{Kind: api.CSet, N: n, Kids: terms(kid)} }
func assign(s string, kid api.Term) api.Term {
	return api.Term{Kind: api.CAssign, Name: s, Kids: terms(kid)}
}
func define(s string, kid api.Term) api.Term {
	return api.Term{Kind: api.CDefine, Name: s, Kids: terms(kid)}
}
func cond(kids ...api.Term) api.Term  { return api.Term{Kind: api.CIf, Kids: kids} }
func begin(kids ...api.Term) api.Term { return api.Term{Kind: api.CBegin, Kids: kids} }
func call(kids ...api.Term) api.Term  { return api.Term{Kind: api.CCall, Kids: kids} }
func lambda(params []int, kid api.Term) api.Term {
	return api.Term{Kind: api.CLambda, Params: params, Kids: terms(kid)}
}
func rest(params []int, kid api.Term) api.Term {
	return api.Term{Kind: api.CLambda, N: 1, Params: params, Kids: terms(kid)}
}

func terms(all ...api.Term) []api.Term { return all }
func ints(all ...int) []int            { return all }

// upTo are the numbers from the first one to the last one.
func upTo(first, last int) []int {
	var all []int
	for n := first; n <= last; n++ {
		all = append(all, n)
	}
	return all
}

// times are n terms, all the same.
func times(n int, t api.Term) []api.Term {
	all := make([]api.Term, n)
	for i := range all {
		all[i] = t
	}
	return all
}

// around are a term that names no local beyond it, and others that have it.
func around(t api.Term) []api.Term {
	a := global("a")
	return []api.Term{
		t, set100(t), assign("a", t), define("a", t), cond(t, a), cond(a, t), cond(t, a, a), cond(a, t, a), cond(a, a, t), lambda(nil, t), lambda(ints(100), t), rest(ints(100, 101), t),
		begin(t), begin(a, t), begin(t, a), call(t), call(a, t), call(t, a), call(a, a, t, a), call(lambda(ints(100), begin(local(100), t)), a), lambda(nil, begin(cond(a, call(a, define("b", t))))),
	}
}

// set100 is a term as what a local is set to.
func set100(t api.Term) api.Term { return lambda(ints(100), set(100, t)) }

// right holds that a term is taken, by itself and within others.
func right(t *testing.T, x api.Term) {
	t.Helper()
	for i, x := range around(x) {
		taken(t, i, x)
	}
}

// taken holds that all functions take a term.
func taken(t *testing.T, i int, x api.Term) {
	t.Helper()
	if e := term.Check(x); e != nil {
		t.Errorf("Check of a term of kind %d (%d): %v", x.Kind, i, e)
	}
	if got, e := term.Alpha(x); e != nil || got.Kind != x.Kind {
		t.Errorf("Alpha of a term of kind %d (%d): kind %d, %v", x.Kind, i, got.Kind, e)
	}
	if got, e := term.Text(x); e != nil || got == "" {
		t.Errorf("Text of a term of kind %d (%d): %.80q, %v", x.Kind, i, got, e)
	}
	if !term.Same(x, x) {
		t.Errorf("a term of kind %d (%d) isn't the same as itself", x.Kind, i)
	}
}

// wrong holds that a term is refused, by itself and within others.
func wrong(t *testing.T, x api.Term) {
	t.Helper()
	for i, x := range around(x) {
		refused(t, i, x)
	}
}

// refused holds that all functions refuse a term.
func refused(t *testing.T, i int, x api.Term) {
	t.Helper()
	if e := term.Check(x); !isForm(e) {
		t.Errorf("Check of a term of kind %d (%d): %v; want form", x.Kind, i, e)
	}
	if got, e := term.Alpha(x); !isForm(e) || !isZero(got) {
		t.Errorf("Alpha of a term of kind %d (%d): kind %d, %v; want form", x.Kind, i, got.Kind, e)
	}
	if got, e := term.Text(x); !isForm(e) || got != "" {
		t.Errorf("Text of a term of kind %d (%d): %.80q, %v; want form", x.Kind, i, got, e)
	}
	if got := term.Globals(x); len(got) != 0 {
		t.Errorf("Globals of a term of kind %d (%d): %.3q; want none", x.Kind, i, got)
	}
	if term.Same(x, x) || term.Same(x, void()) || term.Same(void(), x) || term.Same(x, api.Term{}) {
		t.Errorf("a term of kind %d (%d), which isn't right, is the same as something", x.Kind, i)
	}
}

// isZero tells whether all fields of a term are zero.
func isZero(t api.Term) bool {
	return t.Kind == 0 && t.N == 0 && t.Name == "" && len(t.Params) == 0 && len(t.Kids) == 0 && isNoDatum(t.Data)
}

func isNoDatum(d api.Datum) bool {
	return d.Kind == 0 && d.N == 0 && d.Text == "" && len(d.Items) == 0
}

// oneOfEach are right terms of all kinds, in the forms that each has.
func oneOfEach() []api.Term {
	a, v := global("a"), void()
	return []api.Term{
		quote(num(1)), quote(list()), quote(sym("a")), v, undef(), a, assign("a", v), define("a", v), cond(a, v), cond(a, v, a), begin(a), begin(a, v, a), call(a), call(a, v, a),
		lambda(nil, v), lambda(ints(1), local(1)), lambda(ints(2, 1), local(1)), rest(ints(1), local(1)), rest(ints(1, 2, 3), local(2)), lambda(ints(1), set(1, v)), lambda(ints(1), set(1, local(1))),
	}
}

// P10.1: terms of each kind.
func TestCheck(t *testing.T) {
	for _, x := range oneOfEach() {
		right(t, x)
	}
	a := global("a")
	for _, x := range []api.Term{
		quote(str("")), quote(vec(num(1), dot(sym("a"), str("b")))), quote(num(-1 << 60)), quote(api.Datum{Kind: api.DChar}), quote(api.Datum{Kind: api.DBool}), quote(list(sym("quote"), sym("x"))),
		global("..."), global("+"), global("1+"), global("set!"), global(".1"), global(strings.Repeat("a", 60)), assign("...", a), define("define", a),
		lambda(ints(maxInt), local(maxInt)), lambda(ints(7, 3), local(3)), lambda(ints(1<<32+1, 1), cond(local(1<<32+1), local(1))), lambda(upTo(1, 24), local(24)), rest(upTo(1, 24), set(1, local(24))),
		lambda(ints(1), lambda(ints(2), call(local(1), local(2)))), lambda(ints(1), begin(lambda(ints(2), local(1)), local(1), lambda(ints(3), local(3)))), call(lambda(ints(1), local(1)), lambda(ints(2), local(2))),
		begin(define("a", a), assign("a", a), a), define("a", define("a", a)), lambda(nil, define("a", a)), call(times(29, a)...), begin(times(3000, a)...), lambda(ints(1), set(1, set(1, local(1)))),
	} {
		right(t, x)
	}
}

// P10.1: what is of no kind.
func TestNoKind(t *testing.T) {
	a := global("a")
	for _, kind := range []int{0, -1, 11, 12, 14, 256 + 1, minInt, minInt + 1, maxInt, 1<<32 + 1} {
		for _, x := range []api.Term{{Kind: kind}, {Kind: kind, N: 1}, {Kind: kind, Name: "a"}, {Kind: kind, Data: num(1)}, {Kind: kind, Kids: terms(a)}, {Kind: kind, Kids: terms(a, a)}, {Kind: kind, Params: ints(1), Kids: terms(a)}} {
			wrong(t, x)
		}
	}
}

// with is a term with something in one of its fields.
func with(t api.Term, field int) api.Term {
	switch field {
	case 0:
		t.N = 2
	case 1:
		t.N = -1
	case 2:
		t.Name = "b"
	case 3:
		t.Params = ints(77)
	case 4:
		t.Data = sym("b")
	case 5:
		t.Data = api.Datum{N: 1}
	case 6:
		t.Data = api.Datum{Text: "b"}
	case 7:
		t.Data = api.Datum{Items: []api.Datum{sym("b")}}
	}
	return t
}

// P10.1: fields that a kind doesn't name are zero.
func TestFieldsThatAreNotNamed(t *testing.T) {
	a := global("a")
	named := map[int]string{api.CQuote: "45", api.CGlobal: "2", api.CAssign: "2", api.CDefine: "2", api.CLambda: "3"}
	for _, x := range []api.Term{quote(sym("a")), void(), undef(), a, assign("a", a), define("a", a), cond(a, a), cond(a, a, a), begin(a), call(a), lambda(ints(1), a), rest(ints(1), a)} {
		right(t, x)
		for field := range 8 {
			if y := with(x, field); strings.Contains(named[x.Kind], string(rune('0'+field))) {
				right(t, y)
			} else {
				wrong(t, y)
			}
		}
	}
	// Those that name a local stand within its procedure.
	for _, x := range []api.Term{local(1), set(1, a)} {
		for field := range 8 {
			wrong(t, lambda(ints(1), with(x, field)))
		}
		right(t, lambda(ints(1), x))
		right(t, lambda(ints(1, 2), with(x, 0)))
	}
}

// P10.1: how many kids each kind has.
func TestKids(t *testing.T) {
	a := global("a")
	for _, c := range []struct {
		t           api.Term
		least, most int
	}{
		{quote(num(1)), 0, 0}, {void(), 0, 0}, {undef(), 0, 0}, {a, 0, 0}, {assign("a", a), 1, 1}, {define("a", a), 1, 1}, {cond(), 2, 3}, {lambda(nil, a), 1, 1}, {lambda(ints(1), a), 1, 1}, {rest(ints(1, 2), a), 1, 1},
		{begin(), 1, 40}, {call(), 1, 29}, {local(1), 0, 0}, {set(1, a), 1, 1},
	} {
		for n := range 41 {
			x := c.t
			x.Kids = times(n, a)
			if c.t.Kind == api.CLocal || c.t.Kind == api.CSet {
				x = lambda(ints(1), x)
			}
			if n >= c.least && n <= c.most {
				right(t, x)
			} else {
				wrong(t, x)
			}
		}
	}
	// A kid that isn't right is met wherever it stands.
	for n := 1; n <= 29; n++ {
		for i := range n {
			kids := times(n, a)
			kids[i] = global(".")
			wrong(t, call(kids...))
			wrong(t, begin(kids...))
		}
	}
}

// P10.1: what may be quoted: right data, nothing in particular, no value yet.
func TestQuoted(t *testing.T) {
	a := sym("a")
	for _, d := range []api.Datum{
		{N: 2}, {N: -1}, {N: minInt}, {N: maxInt}, {N: 1 << 32}, {Text: "a"}, {N: 1, Text: "a"}, {Items: []api.Datum{a}}, {N: 1, Items: []api.Datum{a}}, {Kind: 9}, {Kind: -1}, {Kind: minInt}, {Kind: 9, N: 1},
		num(1 << 60), str(strings.Repeat("a", 501)), sym(""), sym("."), sym("7"), dot(a), dot(a, list()), list(api.Datum{}), list(api.Datum{N: 1}), vec(a, api.Datum{N: 1}), {Kind: api.DInt, Text: "1"}, {Kind: api.DBool, N: 2}, {Kind: api.DChar, N: 256}, {Kind: api.DSym, N: 1, Text: "a"},
	} {
		wrong(t, quote(d))
	}
	nest := func(n int, d api.Datum) api.Datum {
		for range n - 1 {
			d = list(d)
		}
		return d
	}
	right(t, quote(nest(64, a)))
	wrong(t, quote(nest(65, a)))
	wrong(t, quote(nest(1<<16, a)))
	right(t, quote(list(most(a)...)))
	wrong(t, quote(list(append(most(a), a)...)))
	round := list(a, list())
	round.Items[1].Items = round.Items
	wrong(t, quote(round))
	for n := -300; n <= 300; n++ {
		d := api.Datum{Kind: api.DChar, N: n}
		if e := term.Check(quote(d)); (e == nil) != (read.Check(d) == nil) {
			t.Errorf("Check of the character %d: %v", n, e)
		}
		if e := term.Check(quote(api.Datum{N: n})); (e == nil) != (n == 0 || n == 1) {
			t.Errorf("Check of the kind 0, %d: %v", n, e)
		}
	}
}

// most are as many data as may stand in one.
func most(d api.Datum) []api.Datum {
	all := make([]api.Datum, 3999)
	for i := range all {
		all[i] = d
	}
	return all
}

// P10.1: names are those of symbols.
func TestNames(t *testing.T) {
	a := global("a")
	names := []string{"", ".", "..", "...", "12", "-1", "+", "-", "1+", "a b", "a,b", "a#", "#a", "é", "a\n", strings.Repeat("a", 60), strings.Repeat("a", 61), strings.Repeat("9", 31), strings.Repeat("9", 30), strings.Repeat("a", 1<<16)}
	for i := range 256 {
		names = append(names, string([]byte{byte(i)}), "a"+string([]byte{byte(i)}))
	}
	for _, s := range names {
		for _, x := range []api.Term{global(s), assign(s, a), define(s, a)} {
			if lex.Symbol(s) {
				right(t, x)
			} else {
				wrong(t, x)
			}
		}
	}
}

// P10.1: locals are named where their procedure is around, and nowhere else.
func TestLocals(t *testing.T) {
	a := global("a")
	for _, x := range []api.Term{local(1), set(1, a), local(0), local(-1), local(maxInt), set(0, a), set(-1, a)} {
		wrong(t, x)
		wrong(t, lambda(nil, x))
		wrong(t, lambda(ints(2), x))
		wrong(t, lambda(ints(2, 3), lambda(ints(4), x)))
		wrong(t, rest(ints(2), x))
		// Ahead of the procedure, behind it, and in one that stands beside it.
		l := lambda(ints(1), local(1))
		wrong(t, begin(x, l))
		wrong(t, begin(l, x))
		wrong(t, call(l, x))
		wrong(t, call(x, l))
		wrong(t, cond(l, x))
		wrong(t, cond(l, a, x))
		wrong(t, begin(lambda(ints(2), l), x))
		wrong(t, lambda(ints(2), begin(lambda(ints(1), a), x)))
		wrong(t, begin(l, lambda(ints(2), x)))
		wrong(t, begin(lambda(ints(2), x), l))
		wrong(t, call(lambda(ints(2, 3), x), lambda(ints(1), a)))
	}
	for _, x := range []api.Term{local(1), set(1, a), set(1, local(1))} {
		right(t, lambda(ints(1), x))
		right(t, lambda(ints(2, 1), x))
		right(t, rest(ints(1), x))
		right(t, rest(ints(2, 1), x))
		right(t, lambda(ints(1), lambda(ints(2), x)))
		right(t, lambda(ints(1), begin(lambda(ints(2), a), x, lambda(ints(3), x), x)))
		right(t, lambda(ints(1), define("a", assign("a", cond(x, x, call(x, x))))))
	}
	wrong(t, lambda(ints(1), set(1, local(2))))
	wrong(t, lambda(ints(1), set(2, local(1))))
	wrong(t, set(1, lambda(ints(1), local(1))))
}

// P10.1: Params: how many they are, their bounds, each only once in the program, and the one that takes the rest.
func TestParams(t *testing.T) {
	a := global("a")
	for n := range 41 {
		if x := lambda(upTo(1, n), a); n <= 24 {
			right(t, x)
		} else {
			wrong(t, x)
		}
		if x := rest(upTo(1, n), a); n >= 1 && n <= 24 {
			right(t, x)
		} else {
			wrong(t, x)
		}
	}
	wrong(t, lambda(upTo(1, 1<<16), a))
	for _, n := range []int{2, -1, 3, 24, 100, minInt, maxInt, 1 << 32, 1<<32 + 1} {
		for _, params := range [][]int{nil, {1}, {1, 2}, upTo(1, 24)} {
			x := lambda(params, a)
			x.N = n
			wrong(t, x)
		}
	}
	for _, n := range []int{0, -1, -24, minInt} {
		wrong(t, lambda(ints(n), a))
		wrong(t, lambda(ints(n, 1), a))
		wrong(t, lambda(ints(1, 2, n), a))
		wrong(t, rest(ints(n), a))
		wrong(t, lambda(ints(n), local(n)))
	}
	wrong(t, lambda(ints(1, 1), a))
	wrong(t, lambda(ints(1, 2, 1), a))
	wrong(t, rest(ints(5, 5), a))
	wrong(t, lambda(ints(1), lambda(ints(1), a)))
	wrong(t, lambda(ints(1), lambda(ints(2, 1), local(2))))
	wrong(t, lambda(ints(1), lambda(nil, begin(a, rest(ints(2, 1), a)))))
	wrong(t, begin(lambda(ints(1), a), lambda(ints(1), a)))
	wrong(t, call(lambda(ints(1), local(1)), lambda(ints(1), local(1))))
	wrong(t, lambda(ints(3), begin(lambda(ints(1), a), lambda(ints(2), lambda(ints(1), a)))))
	right(t, begin(lambda(ints(1), a), lambda(ints(2), a), lambda(nil, a), lambda(nil, a)))
}

// nests are ways to put a term within another one.
func nests() []func(i int, t api.Term) api.Term {
	a := global("a")
	return []func(i int, t api.Term) api.Term{
		func(i int, t api.Term) api.Term { return begin(t) },
		func(i int, t api.Term) api.Term { return call(a, t, a) },
		func(i int, t api.Term) api.Term { return cond(t, a) },
		func(i int, t api.Term) api.Term { return cond(a, begin(a), t) },
		func(i int, t api.Term) api.Term { return define("a", t) },
		func(i int, t api.Term) api.Term { return assign("a", t) },
		func(i int, t api.Term) api.Term { return lambda(nil, t) },
		func(i int, t api.Term) api.Term { return rest(ints(i+2, i+1000), t) },
		func(i int, t api.Term) api.Term { return call(begin(begin(a)), t, a) },
	}
}

// within is how many terms there are within one another.
func within(t api.Term) int {
	most := 0
	for _, kid := range t.Kids {
		most = max(most, within(kid))
	}
	return 1 + most
}

// P10.1: at most 200 terms within one another, of whatever kinds.
func TestDepth(t *testing.T) {
	for k, nest := range nests() {
		for _, inner := range []api.Term{global("a"), void(), quote(list(list(sym("a")))), lambda(ints(1), local(1)), cond(global("a"), global("b"))} {
			x := inner
			for i := 1; within(x) <= 230; i++ {
				switch n := within(x); {
				case n > 200:
					refused(t, n, x)
				case n < 10, n > 190:
					taken(t, n, x)
				}
				if t.Failed() {
					t.Fatalf("%d within one another, in the way %d", within(x), k)
				}
				x = nest(i, x)
			}
		}
	}
	x := local(1)
	for range 198 {
		x = set(1, x)
	}
	taken(t, 200, lambda(ints(1), x))
	refused(t, 201, lambda(ints(1), set(1, x)))
}

// P10.1: at most 4000 parts, wherever they are; what is quoted is none.
func TestMostParts(t *testing.T) {
	a, much := global("a"), quote(list(sym("a"), list(sym("b"), vec(sym("c")))))
	for n := 3990; n <= 4010; n++ {
		for i, x := range []api.Term{
			begin(times(n-1, a)...), begin(times(n-1, much)...), begin(begin(times(n-2, a)...)), begin(append(times(99, call(times(20, a)...)), times(n-1-99*21, a)...)...), lambda(ints(1), begin(times(n-2, local(1))...)),
			cond(begin(times(1000, a)...), begin(times(2000, a)...), begin(times(n-3004, much)...)), define("b", begin(append(times(1000, lambda(nil, a)), times(n-2002, a)...)...)),
		} {
			if got := term.Parts(x); got != n {
				t.Errorf("Parts of the term %d of %d: %d", i, n, got)
			}
			if n <= 4000 {
				taken(t, n, x)
			} else {
				refused(t, n, x)
			}
		}
	}
}

// P10.1: parts are counted of any term, right or wrong, up to 5000 and no further.
func TestParts(t *testing.T) {
	a := global("a")
	deep := func(n int) api.Term {
		x := a
		for range n - 1 {
			x = begin(x)
		}
		return x
	}
	for i, c := range []struct {
		t    api.Term
		want int
	}{
		{api.Term{}, 1}, {a, 1}, {quote(list(sym("a"), sym("b"))), 1}, {lambda(upTo(1, 24), a), 2}, {lambda(ints(1), local(1)), 2}, {set(1, a), 2}, {assign("a", a), 2}, {define("a", cond(a, a, a)), 5}, {cond(), 1}, {cond(a), 2}, {begin(), 1}, {call(a, call(a, a), a), 6},
		{api.Term{Kind: api.CQuote, Kids: terms(a, begin(a))}, 4}, {api.Term{Kind: 99, Kids: terms(a)}, 2}, {api.Term{Kids: terms(api.Term{}, api.Term{})}, 3}, {local(-1), 1}, {call(times(40, a)...), 41},
		{begin(times(4998, a)...), 4999}, {begin(times(4999, a)...), 5000}, {begin(times(5000, a)...), 5000}, {begin(times(100000, a)...), 5000},
		{deep(199), 199}, {deep(201), 201}, {deep(4999), 4999}, {deep(5000), 5000}, {deep(5001), 5000}, {deep(1 << 16), 5000},
		{begin(times(70, begin(times(70, a)...))...), 4971}, {begin(times(71, begin(times(70, a)...))...), 5000}, {begin(times(2, begin(times(2499, a)...))...), 5000}, {begin(times(2, begin(times(2498, a)...))...), 4999}, {begin(begin(times(6000, a)...), begin(times(6000, a)...)), 5000},
	} {
		if got := term.Parts(c.t); got != c.want {
			t.Errorf("Parts of the term %d = %d; want %d", i, got, c.want)
		}
	}
}

// P10.1, P10.2: all end, where terms or data are very deep, go round, or have their parts many times over.
func TestEndlessTerms(t *testing.T) {
	a := global("a")
	round := begin(a, begin())
	round.Kids[1].Kids = round.Kids
	ahead := begin(begin(), a)
	ahead.Kids[0].Kids = ahead.Kids
	doubled := a
	for range 60 {
		doubled = call(doubled, doubled)
	}
	deep := a
	for range 1 << 16 {
		deep = define("a", deep)
	}
	for i, x := range []api.Term{round, ahead, doubled, deep, begin(times(1<<20, a)...), begin(times(1000, begin(times(1<<16, a)...))...), call(a, round), lambda(ints(1), doubled)} {
		if n := term.Parts(x); n != 5000 {
			t.Errorf("Parts of the term %d: %d", i, n)
		}
		refused(t, i, x)
	}
	// Data that are shared are looked at wherever they stand.
	items := sym("a")
	for range 8 {
		items = list(items, items)
	}
	shared := begin(times(3999, quote(items))...)
	if e := term.Check(shared); e != nil || !term.Same(shared, shared) || term.Same(shared, begin(times(3998, quote(items))...)) {
		t.Errorf("Check of shared data: %v", e)
	}
}

// P10.1: nil and an empty list are one.
func TestEmptyLists(t *testing.T) {
	a := global("a")
	for _, x := range oneOfEach() {
		y := x
		if len(y.Params) == 0 {
			y.Params = []int{}
		}
		if len(y.Kids) == 0 {
			y.Kids = []api.Term{}
		}
		if len(y.Data.Items) == 0 {
			y.Data.Items = []api.Datum{}
		}
		right(t, y)
		if !term.Same(x, y) || !term.Same(y, x) || term.Parts(x) != term.Parts(y) {
			t.Errorf("a term of kind %d is another one with empty lists", x.Kind)
		}
	}
	wrong(t, api.Term{Kind: api.CBegin, Kids: []api.Term{}})
	wrong(t, api.Term{Kind: api.CCall, Kids: []api.Term{}})
	wrong(t, api.Term{Kind: api.CLambda, N: 1, Params: []int{}, Kids: terms(a)})
}
