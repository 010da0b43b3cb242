package datum_test

import (
	"slices"
	"testing"

	"spindle/api"
	"spindle/datum"
	"spindle/read"
)

func list(items ...api.Datum) api.Datum { return api.Datum{Kind: api.DList, Items: items} }

// same tells whether two data are alike in all fields.
func same(a, b api.Datum) bool {
	return a.Kind == b.Kind && a.N == b.N && a.Text == b.Text && slices.EqualFunc(a.Items, b.Items, same)
}

// times is so many times the same.
func times(n int, d api.Datum) []api.Datum { return slices.Repeat([]api.Datum{d}, n) }

// nest is n lists within one another.
func nest(n int) api.Datum {
	d := list()
	for range n - 1 {
		d = list(d)
	}
	return d
}

// spoil puts other things into all lists of d, into their spare room, too.
func spoil(d api.Datum) {
	for _, item := range d.Items {
		spoil(item)
	}
	for i := range d.Items[:cap(d.Items)] {
		d.Items[:cap(d.Items)][i] = api.Datum{Text: "spoilt"}
	}
}

// A copy has all fields, right or not, and shares no list, with what it was made of or within itself.
func TestCopy(t *testing.T) {
	data, e := read.All(`a 1 #t #\a "s" () #() (a (b (c) . d) #(1 (2)) . "e") #(() #())`)
	if e != nil {
		t.Fatal(e)
	}
	twice := list(api.Datum{Kind: api.DSym, Text: "a"}, list())
	for _, d := range append(data, api.Datum{}, api.Datum{Kind: -1, N: 5, Text: "\xff", Items: times(2, twice)}, api.Datum{Kind: api.DDot}, list(times(9, twice)...)) {
		one, other := datum.Copy(d), datum.Copy(d)
		if !same(one, d) {
			t.Errorf("Copy(%+v) = %+v", d, one)
		}
		spoil(one)
		if !same(other, d) {
			t.Errorf("%+v changed with a copy", d)
		}
	}
	d := datum.Copy(list(twice, twice))
	spoil(d.Items[0])
	if !same(d.Items[1], twice) {
		t.Error("two lists of a copy share their items")
	}
	if d := datum.Copy(api.Datum{Kind: api.DList, Items: []api.Datum{}}); len(d.Items) > 0 {
		t.Errorf("a copy of an empty list is %+v", d)
	}
}

// At most 4000 parts, and at most 64 data within one another; all ends also where data go round.
func TestFits(t *testing.T) {
	for n := 1; n < 200; n++ {
		if datum.Fits(nest(n)) != (n <= 64) || datum.Fits(list(list(), nest(n), list())) != (n < 64) {
			t.Errorf("Fits of %d lists within one another isn't right", n)
		}
	}
	for n := 3990; n < 4010; n++ {
		if datum.Fits(list(times(n-1, api.Datum{Kind: 99})...)) != (n <= 4000) || datum.Fits(list(list(times(n-2, list())...))) != (n <= 4000) {
			t.Errorf("Fits of %d parts isn't right", n)
		}
	}
	round := list(list(), list())
	round.Items[1].Items = round.Items
	for _, d := range []api.Datum{round, nest(1 << 16), list(times(1000, list(times(1000, list())...))...)} {
		if datum.Fits(d) {
			t.Error("more than there may be fits")
		}
	}
}

// A row is all that there is, but for the last item of a list with a full stop, which is the tail.
func TestRow(t *testing.T) {
	three := times(3, api.Datum{Kind: api.DInt})
	for _, c := range []struct {
		kind, n     int
		items, tail int
	}{{api.DList, 0, 0, 0}, {api.DList, 3, 3, 0}, {api.DVec, 0, 0, 0}, {api.DVec, 3, 3, 0}, {api.DDot, 0, 0, 0}, {api.DDot, 1, 0, 1}, {api.DDot, 2, 1, 1}, {api.DDot, 3, 2, 1}, {api.DInt, 0, 0, 0}, {api.DSym, 2, 2, 0}} {
		d := api.Datum{Kind: c.kind, Items: three[:c.n]}
		items, tail := datum.Row(d)
		if len(items) != c.items || len(tail) != c.tail || !slices.EqualFunc(slices.Concat(items, tail), d.Items, same) {
			t.Errorf("Row of %d items of the kind %d: %d and %d", c.n, c.kind, len(items), len(tail))
		}
	}
}

// What stands behind some items: the rest of them, with the tail, or the tail alone.
func TestBehind(t *testing.T) {
	read := func(text string) api.Datum {
		all, e := read.All(text)
		if e != nil {
			t.Fatal(e)
		}
		return all[0]
	}
	for _, c := range []struct {
		text string
		n    int
		want string
	}{{"(a b c)", 0, "(a b c)"}, {"(a b c)", 1, "(b c)"}, {"(a b c)", 3, "()"}, {"()", 0, "()"}, {"#(a b)", 1, "#(b)"}, {"#(a)", 1, "#()"}, {"(a b . c)", 0, "(a b . c)"}, {"(a b . c)", 1, "(b . c)"}, {"(a b . c)", 2, "c"}, {"(a . #(b))", 1, "#(b)"}} {
		if d := datum.Behind(read(c.text), c.n); !same(d, read(c.want)) {
			t.Errorf("behind %d of %s: %+v", c.n, c.text, d)
		}
	}
}

// Names, and nothing but them, are what they are called, in new memory.
func TestRename(t *testing.T) {
	all, e := read.All(`a (b "a" #\a (a . b) #(a 1 c)) ((x . b) "" #() . d)`)
	if e != nil {
		t.Fatal(e)
	}
	want, e := read.All(`aa (bb "a" #\a (aa . bb) #(aa 1 cc)) ((xx . bb) "" #() . dd)`)
	if e != nil {
		t.Fatal(e)
	}
	for i, d := range all {
		one := datum.Rename(d, func(name string) string { return name + name })
		if !same(one, want[i]) {
			t.Errorf("%+v is renamed to %+v", d, one)
		}
		before := datum.Copy(d)
		spoil(one)
		if !same(d, before) {
			t.Errorf("%+v changed with what it was renamed to", d)
		}
	}
}

// What a term may quote: right data, nothing in particular, no value yet.
func TestQuotable(t *testing.T) {
	round := list(list(), list())
	round.Items[1].Items = round.Items
	for _, c := range []struct {
		d                 api.Datum
		nothing, quotable bool
	}{
		{api.Datum{}, true, true},
		{api.Datum{Items: []api.Datum{}}, true, true},
		{api.Datum{N: 1}, false, true},
		{api.Datum{N: 1, Items: []api.Datum{}}, false, true},
		{api.Datum{N: 2}, false, false},
		{api.Datum{N: -1}, false, false},
		{api.Datum{Text: "a"}, false, false},
		{api.Datum{N: 1, Text: "a"}, false, false},
		{api.Datum{Items: times(1, list())}, false, false},
		{api.Datum{N: 1, Items: times(1, list())}, false, false},
		{api.Datum{Kind: api.DInt}, false, true},
		{api.Datum{Kind: api.DInt, N: 1}, false, true},
		{api.Datum{Kind: api.DBool, N: 2}, false, false},
		{api.Datum{Kind: api.DSym}, false, false},
		{api.Datum{Kind: 9, N: 1}, false, false},
		{list(), false, true},
		{list(api.Datum{}), false, false},
		{list(api.Datum{N: 1}), false, false},
		{nest(64), false, true},
		{nest(65), false, false},
		{round, false, false},
	} {
		if datum.Nothing(c.d) != c.nothing || datum.Quotable(c.d) != c.quotable {
			t.Errorf("Nothing, Quotable of a datum of the kind %d aren't %v, %v", c.d.Kind, c.nothing, c.quotable)
		}
	}
}
