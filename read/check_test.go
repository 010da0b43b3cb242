package read_test

import (
	"strconv"
	"strings"
	"testing"

	"spindle/api"
	"spindle/lex"
	"spindle/read"
)

// right holds that Check takes a datum, by itself and within others.
func right(t *testing.T, d api.Datum) {
	t.Helper()
	for i, x := range around(d) {
		if e := read.Check(x); e != nil {
			t.Errorf("Check of %.80s (%d): %v", plain(d), i, e)
		}
	}
}

// wrong holds that Check refuses a datum, by itself and within others.
func wrong(t *testing.T, d api.Datum) {
	t.Helper()
	for i, x := range around(d) {
		if e := read.Check(x); !isBare(e, api.ErrForm) {
			t.Errorf("Check of %.80s (kind %d, %d): %v; want form", plain(x), d.Kind, i, e)
		}
	}
}

// around are a datum, and others that have it.
func around(d api.Datum) []api.Datum {
	a := sym("a")
	return []api.Datum{d, list(d), list(a, d), list(d, a), vec(d), vec(a, d, a), dot(d, a), dot(a, d, a), dot(a, vec(d)), list(list(vec(a, dot(d, a))))}
}

// with are a datum with something in those of its fields that its kind doesn't name.
func with(d api.Datum) []api.Datum {
	var all []api.Datum
	n, text, items := d, d, d
	n.N, text.Text, items.Items = 1, "a", []api.Datum{sym("a")}
	switch d.Kind {
	case api.DInt, api.DBool, api.DChar:
		all = append(all, text, items)
	case api.DStr, api.DSym:
		all = append(all, n, items)
		n.N = -1
		all = append(all, n)
	default:
		all = append(all, n, text)
		n.N = minInt
		all = append(all, n)
	}
	return all
}

// P8.3: data of each kind, and what is none: fields that are wrong, and such as the kind doesn't name.
func TestCheck(t *testing.T) {
	a := sym("a")
	for _, d := range []api.Datum{
		num(0), num(-1), num(1<<60 - 1), num(-1 << 60), truth(0), truth(1), char(0), char(9), char(10), char(11), char(127), char(128), char(255),
		str(""), str("a"), str("\x00\xff\"\\\n"), str(strings.Repeat("\xff", 500)), str("é"), sym("a"), sym("..."), sym("1+"), sym(strings.Repeat("a", 60)), sym("quote"),
		list(), list(a), list(list()), list(num(1), truth(0), char(255), str(""), a, list(), dot(a, a), vec()), list(sym("quote")), list(sym("quote"), a), list(sym("quote"), a, a),
		dot(a, a), dot(a, a, a), dot(a, num(1)), dot(a, truth(0)), dot(a, char(0)), dot(a, str("")), dot(a, vec()), dot(list(), a), dot(dot(a, a), a), dot(list(), vec(list())), dot(dot(a, a), dot(a, a), a),
		vec(), vec(a), vec(vec(), list(), dot(a, a)), vec(times(121, a)...), vec(times(3000, a)...), list(times(3000, a)...),
	} {
		right(t, d)
		for _, x := range with(d) {
			wrong(t, x)
		}
	}
	for _, d := range []api.Datum{
		num(1 << 60), num(-1<<60 - 1), num(maxInt), num(minInt), truth(2), truth(-1), truth(maxInt), truth(256), char(-1), char(256), char(maxInt), char(minInt),
		str(strings.Repeat("a", 501)), str(strings.Repeat("a", 1<<16)), sym(""), sym("."), sym("12"), sym("-7"), sym("1152921504606846976"), sym("a b"), sym("a,b"), sym("a#"), sym("é"), sym("("), sym("a\n"), sym(strings.Repeat("a", 61)),
		dot(), dot(a), dot(list()), dot(a, list()), dot(a, list(a)), dot(a, a, list()), dot(a, dot(a, a)), dot(a, a, dot(a, a)), dot(list(), list()), dot(a, dot()),
		dot(a, api.Datum{}), list(api.Datum{}), vec(a, api.Datum{}), api.Datum{},
	} {
		wrong(t, d)
	}
	for _, kind := range []int{0, -1, 9, 10, 14, 256, maxInt, minInt} {
		for _, d := range []api.Datum{{Kind: kind}, {Kind: kind, N: 1}, {Kind: kind, Text: "a"}, {Kind: kind, Items: []api.Datum{a, a}}} {
			wrong(t, d)
		}
	}
}

// P8.3: each number's bounds by kind, and each byte of a symbol as layer 7 says.
func TestCheckEach(t *testing.T) {
	for n := -300; n <= 300; n++ {
		if e := read.Check(char(n)); is(e, 0) != (n >= 0 && n <= 255) || !is(e, 0) && !isBare(e, api.ErrForm) {
			t.Errorf("Check of the character %d: %v", n, e)
		}
		if e := read.Check(truth(n)); is(e, 0) != (n == 0 || n == 1) || !is(e, 0) && !isBare(e, api.ErrForm) {
			t.Errorf("Check of the truth %d: %v", n, e)
		}
	}
	for i := range 256 {
		for _, s := range []string{string([]byte{byte(i)}), "a" + string([]byte{byte(i)}), "1" + string([]byte{byte(i)})} {
			if e := read.Check(sym(s)); is(e, 0) != lex.Symbol(s) || !is(e, 0) && !isBare(e, api.ErrForm) {
				t.Errorf("Check of the symbol %q: %v", s, e)
			}
			right(t, str(s))
		}
	}
	for n := 490; n < 510; n++ {
		if e := read.Check(str(strings.Repeat("a", n))); is(e, 0) != (n <= 500) || !is(e, 0) && !isBare(e, api.ErrForm) {
			t.Errorf("Check of a string of %d bytes: %v", n, e)
		}
	}
}

// P8.3: nil and an empty list are one.
func TestEmptyItems(t *testing.T) {
	none := []api.Datum{}
	for _, d := range []api.Datum{{Kind: api.DInt, Items: none}, {Kind: api.DBool, Items: none}, {Kind: api.DChar, Items: none}, {Kind: api.DStr, Items: none}, {Kind: api.DSym, Text: "a", Items: none}, {Kind: api.DList, Items: none}, {Kind: api.DVec, Items: none}} {
		right(t, d)
		if n := read.Parts(d); n != 1 {
			t.Errorf("Parts of a datum of kind %d without items: %d", d.Kind, n)
		}
	}
	wrong(t, api.Datum{Kind: api.DDot, Items: none})
}

// P8.3: at most 64 data within one another, in each kind of row.
func TestCheckDepth(t *testing.T) {
	for _, row := range []func(d api.Datum) api.Datum{
		func(d api.Datum) api.Datum { return list(d) },
		func(d api.Datum) api.Datum { return vec(d) },
		func(d api.Datum) api.Datum { return dot(d, sym("a")) },
		func(d api.Datum) api.Datum { return dot(sym("a"), vec(d)) },
		func(d api.Datum) api.Datum { return list(sym("a"), str(""), d, list()) },
		func(d api.Datum) api.Datum { return list(list(list()), d) },
	} {
		for _, inner := range []api.Datum{sym("a"), list(), vec(), num(0), dot(sym("a"), sym("b"))} {
			d := inner
			for within := deep(inner); within <= 80; within = deep(d) {
				if e := read.Check(d); is(e, 0) != (within <= 64) || !is(e, 0) && !isBare(e, api.ErrForm) {
					t.Errorf("Check of %d within one another, of kind %d: %v", within, d.Kind, e)
				}
				d = row(d)
			}
		}
	}
}

// deep is how many data there are within one another.
func deep(d api.Datum) int {
	most := 0
	for _, item := range d.Items {
		most = max(most, deep(item))
	}
	return 1 + most
}

// parts is how many parts a datum has, all of them.
func parts(d api.Datum) int {
	n := 1
	for _, item := range d.Items {
		n += parts(item)
	}
	return n
}

// P8.3: at most 4000 parts, wherever they are.
func TestCheckParts(t *testing.T) {
	a := sym("a")
	for n := 3990; n <= 4010; n++ {
		for i, d := range []api.Datum{
			list(times(n-1, a)...), vec(times(n-1, list())...), dot(times(n-1, a)...), list(list(times(n-2, a)...)), list(append(times(9, list(times(99, a)...)), times(n-901, a)...)...),
			vec(list(times(2000, a)...), dot(times(n-2003, a)...)), list(a, vec(times(n-3, a)...)),
		} {
			if got := read.Parts(d); got != n {
				t.Errorf("Parts of the datum %d of %d: %d", i, n, got)
			}
			if e := read.Check(d); is(e, 0) != (n <= 4000) || !is(e, 0) && !isBare(e, api.ErrForm) {
				t.Errorf("Check of the datum %d of %d parts: %v", i, n, e)
			}
		}
	}
}

// P8.3: parts are counted of any datum, right or wrong, up to 5000 and no further.
func TestParts(t *testing.T) {
	a := sym("a")
	for _, c := range []struct {
		d    api.Datum
		want int
	}{
		{api.Datum{}, 1}, {num(7), 1}, {a, 1}, {list(), 1}, {vec(), 1}, {list(a), 2}, {dot(a, a), 3}, {vec(a, list(a, a), a), 6}, {list(list(list(list()))), 4}, {list(sym("quote"), a), 3},
		{api.Datum{Kind: api.DInt, Items: []api.Datum{a, list(a)}}, 4}, {api.Datum{Kind: 99, Items: []api.Datum{a}}, 2}, {api.Datum{Kind: api.DStr, Text: "abc", Items: []api.Datum{{}, {}}}, 3}, {dot(a), 2}, {dot(), 1},
		{list(times(4998, a)...), 4999}, {list(times(4999, a)...), 5000}, {list(times(5000, a)...), 5000}, {list(times(100000, a)...), 5000},
		{nest(64, a), 64}, {nest(65, a), 65}, {nest(4999, a), 4999}, {nest(5000, a), 5000}, {nest(5001, a), 5000}, {nest(1<<16, a), 5000},
		{list(times(70, list(times(70, a)...))...), 4971}, {list(times(71, list(times(70, a)...))...), 5000}, {list(list(times(6000, a)...), list(times(6000, a)...)), 5000}, {list(times(2, list(times(2499, a)...))...), 5000}, {list(times(2, list(times(2498, a)...))...), 4999},
	} {
		if got := read.Parts(c.d); got != c.want {
			t.Errorf("Parts of %.40s.. = %d; want %d", plain(list(c.d.Items[:min(len(c.d.Items), 1)]...)), got, c.want)
		}
	}
	d := dice(23)
	for range 5000 {
		x := d.datum(d.below(6))
		if got, want := read.Parts(x), min(parts(x), 5000); got != want {
			t.Errorf("Parts of %.80s = %d; want %d", plain(x), got, want)
		}
	}
}

// P8.3: both end, where data are very deep, go round, or have their parts many times over.
func TestEndlessData(t *testing.T) {
	round := list(sym("a"), list())
	round.Items[1].Items = round.Items
	doubled := list()
	for range 60 {
		doubled = list(doubled, doubled)
	}
	wide := vec(times(1<<20, list())...)
	for i, d := range []api.Datum{round, doubled, wide, nest(1<<16, sym("a")), list(times(1000, wide)...)} {
		if n := read.Parts(d); n != 5000 {
			t.Errorf("Parts of the datum %d: %d", i, n)
		}
		if e := read.Check(d); !isBare(e, api.ErrForm) {
			t.Errorf("Check of the datum %d: %v", i, e)
		}
	}
}

// P8.3: what is handed in stays as it is, its spare room too.
func TestCheckChangesNothing(t *testing.T) {
	spare := []api.Datum{sym("a"), num(1), str("spare")}
	d := api.Datum{Kind: api.DList, Items: spare[:2]}
	if e := read.Check(d); e != nil || read.Parts(d) != 3 {
		t.Errorf("Check: %v; Parts: %d", e, read.Parts(d))
	}
	if !sameAll(spare, []api.Datum{sym("a"), num(1), str("spare")}) {
		t.Errorf("the items are %s now", plain(list(spare...)))
	}
}

// P8.4: what is read is right; but there is a datum that has more parts than may be, though its tokens aren't too many.
func TestReadIsRight(t *testing.T) {
	for _, c := range []struct {
		marked int
		want   api.Kind
	}{{100, 0}, {1333, 0}, {1334, api.ErrForm}, {1999, api.ErrForm}} {
		text := "(" + strings.Repeat("'a ", c.marked) + ")"
		d, next, e := read.One(text, 0, 1, 1)
		if e != nil || next != len(text) || len(d.Items) != c.marked || read.Parts(d) != min(1+3*c.marked, 5000) || !is(read.Check(d), c.want) {
			t.Errorf("One of %s marks: %d items, %d parts, %v; Check: %v", strconv.Itoa(c.marked), len(d.Items), read.Parts(d), e, read.Check(d))
		}
	}
}
