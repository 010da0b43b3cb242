package fill_test

import (
	"errors"
	"slices"
	"strconv"
	"testing"

	"spindle/api"
	"spindle/fill"
)

const (
	minInt = -1 << 63
	maxInt = 1<<63 - 1
)

// times is so many times the same.
func times(n int, d api.Datum) []api.Datum { return slices.Repeat([]api.Datum{d}, n) }

// rows are ways to stand within a row.
func rows() []func(d api.Datum) api.Datum {
	return []func(d api.Datum) api.Datum{
		func(d api.Datum) api.Datum { return list(d) },
		func(d api.Datum) api.Datum { return vec(d) },
		func(d api.Datum) api.Datum { return vec(num(1), d) },
		func(d api.Datum) api.Datum { return list(num(1), d, num(1)) },
		func(d api.Datum) api.Datum { return dot(d, num(1)) },
		func(d api.Datum) api.Datum { return dot(num(1), vec(d)) },
	}
}

// nest is d within n rows.
func nest(n int, d api.Datum, row func(d api.Datum) api.Datum) api.Datum {
	for range n {
		d = row(d)
	}
	return d
}

// deep is how many data are within one another.
func deep(d api.Datum) int {
	most := 0
	for _, item := range d.Items {
		most = max(most, deep(item))
	}
	return 1 + most
}

// refusesMuch holds that p, which is too much of a template, is none.
func refusesMuch(t *testing.T, p api.Datum) {
	t.Helper()
	for _, bounds := range [][]api.Bound{nil, stands("a 1"), stands("b* (1 2)")} {
		if names := fill.Names(p, bounds, dots); len(names) > 0 {
			t.Errorf("Names(%.80s): %d names", shown(p), len(names))
		}
		fails(t, p, bounds, dots, api.ErrLong)
	}
}

// P13.1, P13.2: a template has at most 4000 parts; an ellipsis is one, too.
func TestTemplateParts(t *testing.T) {
	x, b, more := sym("x"), sym("b"), sym(dots)
	for _, n := range []int{3990, 3998, 3999, 4000, 4001, 4002, 5000, 6000} {
		for i, c := range []struct {
			p     api.Datum
			names []string
			want  api.Datum
		}{
			{list(list(append(times(n-4, x), b)...), more), []string{"x"}, list()},
			{list(list(append(times(n-4, b), x)...), more), []string{"x"}, list()},
			{list(vec(append(times(n-5, x), b, list())...), more), []string{"x"}, list()},
			{vec(append([]api.Datum{b}, times(n-2, more)...)...), nil, vec()},
			{dot(list(append(times(n-5, x), b)...), more, num(1)), []string{"x"}, num(1)},
		} {
			if n > 4000 {
				refusesMuch(t, c.p)
				continue
			}
			if names := fill.Names(c.p, stands("b* ()"), dots); !slices.Equal(names, c.names) {
				t.Errorf("Names of the template %d of %d parts: %q", i, n, names)
			}
			if got, e := fill.Fill(c.p, stands("b* ()"), dots, nil); e != nil || !same(got, c.want) {
				t.Errorf("Fill of the template %d of %d parts: %.80s, %v", i, n, shown(got), e)
			}
		}
	}
}

// P13.1: as many names as there may be.
func TestManyNames(t *testing.T) {
	var items []api.Datum
	var names []string
	for i := range 3999 {
		names = append(names, "n"+strconv.Itoa(i*7%4001))
		items = append(items, sym(names[i]))
	}
	twice := slices.Concat(items[:1999], items[:2000])
	for _, c := range []struct {
		p    api.Datum
		want []string
	}{{list(items...), names}, {vec(items...), names}, {dot(items...), names}, {list(twice...), names[:2000]}} {
		if got := fill.Names(c.p, nil, dots); !slices.Equal(got, c.want) {
			t.Errorf("Names: %d; want %d", len(got), len(c.want))
		}
	}
}

// parts are how many data d is made of.
func parts(d api.Datum) int {
	n := 1
	for _, item := range d.Items {
		n += parts(item)
	}
	return n
}

// come is how many data come where d comes, that are put into rows; and how many more, if tails count as well.
func come(d api.Datum) (least, more int) {
	for i, item := range d.Items {
		inner, tails := come(item)
		least, more = least+inner, more+tails
		if d.Kind == api.DDot && i == len(d.Items)-1 {
			more += parts(item)
		} else {
			least += parts(item)
		}
	}
	return least, more
}

// P13.1, P13.2: a template has at most 64 data within one another, in each kind of row.
func TestTemplateDepth(t *testing.T) {
	for i, row := range append(rows(), func(d api.Datum) api.Datum { return list(list(num(1)), d) }) {
		for _, inner := range []api.Datum{sym("x"), num(1), list(), list(sym("x"), num(1)), dot(num(1), sym("x"))} {
			for n := range 100 {
				p := nest(n, inner, row)
				if deep(p) > 64 {
					refusesMuch(t, p)
					continue
				}
				if names := fill.Names(p, nil, dots); len(names) != len(fill.Names(inner, nil, dots)) {
					t.Errorf("Names of %d data within one another in the row %d: %q", deep(p), i, names)
				}
				least, more := come(p)
				least += parts(p)
				got, e := fill.Fill(p, nil, dots, nil)
				if least+more <= 4000 && (e != nil || !same(got, p)) || least > 4000 && !errors.Is(e, api.ErrLong) {
					t.Errorf("Fill of %d data within one another in the row %d, of which %d come: %v", deep(p), i, least, e)
				}
			}
		}
	}
}

// P13.1, P13.2: an escape counts as all else where a template is too deep, and isn't there any more where it is filled.
func TestDeepEscapes(t *testing.T) {
	for _, n := range []int{1, 30, 60, 61, 62, 63, 64, 65} {
		p := list(sym(dots), nest(n, sym("x"), rows()[0]))
		if n > 62 {
			refusesMuch(t, p)
			continue
		}
		if got, e := fill.Fill(p, nil, dots, nil); e != nil || !same(got, p.Items[1]) {
			t.Errorf("Fill of an escape, %d deep: %s, %v", deep(p), shown(got), e)
		}
	}
}

// P13.2: what comes has at most 64 data within one another, whatever makes it so deep.
func TestDeepAnswers(t *testing.T) {
	for _, row := range rows() {
		for _, n := range []int{1, 2, 30, 31, 32, 33, 40, 61, 62, 63, 64, 65, 100} {
			d := nest(n, num(5), rows()[0])
			for _, most := range []int{0, 1, 2, 30, 31, 32, 33} {
				p := nest(most, sym("a"), row)
				want := nest(most, d, row)
				got, e := fill.Fill(p, []api.Bound{{Name: "a", D: d}}, dots, nil)
				if deep(want) > 64 && (!errors.Is(e, api.ErrLong) || !isEmpty(got)) || deep(want) <= 64 && (e != nil || !same(got, want)) {
					t.Errorf("Fill of %s, a being %d deep: %.80s, %v", shown(p), n+1, shown(got), e)
				}
			}
		}
	}
	// A list that is joined isn't deeper than what is in it.
	tail := list(nest(62, num(5), rows()[0]))
	for _, c := range []struct {
		p     api.Datum
		works bool
	}{{datum("(1 . a)"), true}, {datum("((1 . a))"), false}, {datum("(1 . #(a))"), false}, {datum("(b ... . a)"), true}, {datum("#(1 a)"), false}, {datum("((b ... . a))"), false}} {
		got, e := fill.Fill(c.p, append(stands("b* ()"), api.Bound{Name: "a", D: tail}), dots, nil)
		if c.works && (e != nil || deep(got) != 64) || !c.works && (!errors.Is(e, api.ErrLong) || !isEmpty(got)) {
			t.Errorf("Fill of %s: %.80s, %v", shown(c.p), shown(got), e)
		}
	}
}

// P13.2: at most 4000 data come; each that is put into a row, or is the whole, counts as many as its parts.
func TestManyData(t *testing.T) {
	flat := func(n int) api.Datum { return list(times(n-1, num(1))...) }
	for _, c := range []struct {
		p          string
		each, more int // as many come for each part of a, or thing of b, or of d's first one; and so many more
	}{
		{"a", 1, 0}, {"(... a)", 1, 0}, {"(a)", 2, 1}, {"#(a)", 2, 1}, {"((a))", 3, 3}, {"(... (a))", 2, 1}, {"(a a)", 4, 1}, {"(a 1)", 2, 3}, {"#(1 (a))", 3, 5},
		{"(b ...)", 2, 1}, {"#(b ...)", 2, 1}, {"((b ...))", 3, 3}, {"((b) ...)", 5, 1}, {"((b x) ...)", 8, 1}, {"(((b)) ...)", 9, 1}, {"(() b ...)", 2, 3}, {"(b ... b ...)", 4, 1}, {"(b ... (c ...))", 2, 9}, {"((c a) ...)", 6, 11}, {"(d ... ...)", 2, 5}, {"((d ...) ...)", 3, 11},
	} {
		edge := (4000 - c.more) / c.each
		for _, n := range []int{1, 2, 9, edge - 1, edge, edge + 1, edge + 2, 5000} {
			b := []api.Bound{{Name: "a", D: flat(n)}, bound("b", 1, flat(n+1)), bound("c", 1, flat(3)), bound("d", 2, list(flat(n+1), flat(3)))}
			got, e := fill.Fill(datum(c.p), b, dots, nil)
			if n > edge && (!errors.Is(e, api.ErrLong) || !isEmpty(got)) || n <= edge && (e != nil || isEmpty(got)) {
				t.Errorf("Fill(%s) of %d: %.80s, %v", c.p, n, shown(got), e)
			}
		}
	}
}

// P13.2: far too many data come, also by what stands in a tail, or what the template has by itself.
func TestFarTooMany(t *testing.T) {
	many := list(times(1<<16, num(1))...)
	b := []api.Bound{{Name: "a", D: many}, bound("b", 1, many), bound("c", 2, list(times(300, list(times(300, num(1))...))...)), bound("d", 1, list(times(5, many)...))}
	for _, p := range []string{"a", "(a)", "(1 . a)", "(1 a)", "(1 . #(a))", "#(1 2 a)", "(... a)", "(b ...)", "(b ... . 1)", "(1 . #(b ...))", "((b) ...)", "(c ... ...)", "((c ...) ...)", "((1 . d) ...)", "((b ...) c)"} {
		fails(t, datum(p), b, dots, api.ErrLong)
	}
	for _, n := range []int{2001, 3000, 3999} {
		for _, p := range []api.Datum{list(times(n, num(1))...), vec(times(n, sym("x"))...), dot(times(n, list())...)} {
			p.Items[n-1] = num(2)
			fails(t, p, b, dots, api.ErrLong)
		}
	}
	fails(t, nest(60, list(times(100, num(1))...), rows()[0]), b, dots, api.ErrLong)
}

// P13.2: of several errors that are met the first one is told.
func TestFirstErrors(t *testing.T) {
	b := []api.Bound{{Name: "a", D: list(times(5000, num(1))...)}, bound("b", 1, list(num(1)))}
	for _, p := range []string{"(b a)", "((b) a)", "(x ... a)", "((b) . a)", "#(1 b a)", "((b ... ...) a)"} {
		fails(t, datum(p), b, dots, api.ErrForm)
	}
	// A template that is too much is refused ahead of all else.
	fails(t, list(append(times(4000, num(1)), sym("b"))...), b, dots, api.ErrLong)
	fails(t, list(append([]api.Datum{sym("b")}, times(4000, num(1))...)...), b, dots, api.ErrLong)
	fails(t, list(sym("b"), nest(64, num(1), rows()[0])), b, dots, api.ErrLong)
}

// P13.2: as many ellipses as there may be, behind one another and within one another.
func TestDeepEllipses(t *testing.T) {
	d, p := num(5), sym("b")
	for depth := 1; depth <= 63; depth++ {
		d, p = list(d), list(p, sym(dots))
		b := []api.Bound{bound("b", depth, d)}
		flat := list(append([]api.Datum{sym("b")}, times(depth, sym(dots))...)...)
		if got, e := fill.Fill(flat, b, dots, nil); e != nil || !same(got, list(num(5))) {
			t.Errorf("Fill of %d ellipses behind one another: %s, %v", depth, shown(got), e)
		}
		if got, e := fill.Fill(p, b, dots, nil); e != nil || !same(got, d) {
			t.Errorf("Fill of %d ellipses within one another: %s, %v", depth, shown(got), e)
		}
	}
	deepest := api.Bound{Name: "b", D: num(5)}
	for depth := 1; depth <= 3998; depth++ {
		deepest = api.Bound{Name: "b", Depth: depth, Kids: []api.Bound{deepest}}
	}
	most := list(append([]api.Datum{sym("b")}, times(3998, sym(dots))...)...)
	if got, e := fill.Fill(most, []api.Bound{deepest}, dots, nil); e != nil || !same(got, list(num(5))) {
		t.Errorf("Fill of 3998 ellipses: %s, %v", shown(got), e)
	}
	fails(t, list(most.Items[:3998]...), []api.Bound{deepest}, dots, api.ErrForm)
	fails(t, most, deepest.Kids, dots, api.ErrForm)
}

// P13.2: there are as many bounds, and pairs, as one likes, and things that come to nothing.
func TestManyBounds(t *testing.T) {
	var bounds []api.Bound
	var pairs []api.Pair
	for i := range 1 << 16 {
		name := strconv.Itoa(i)
		bounds = append(bounds, api.Bound{Name: "v" + name, D: num(i)})
		pairs = append(pairs, api.Pair{From: "n" + name, To: "m" + name})
	}
	var p, want []api.Datum
	for i := range 900 {
		i = i * 70
		name := strconv.Itoa(i)
		p, want = append(p, sym("v"+name), sym("n"+name)), append(want, num(i), sym("m"+name))
	}
	if got, e := fill.Fill(list(p...), bounds, dots, pairs); e != nil || !same(got, list(want...)) {
		t.Errorf("Fill of many: %.80s, %v", shown(got), e)
	}
	nothing := api.Bound{Name: "b", Depth: 2, Kids: slices.Repeat([]api.Bound{{Name: "b", Depth: 1}}, 1<<18)}
	big := list(append(times(3900, list()), sym("b"))...)
	if got, e := fill.Fill(list(big, sym(dots), sym(dots), sym("v1")), append(bounds, nothing), dots, nil); e != nil || !same(got, list(num(1))) {
		t.Errorf("Fill of nothing, many times: %.80s, %v", shown(got), e)
	}
}

// Rule 1: all calls end, where data, or what variables stand for, go round, are very deep, or have their parts many times over.
func TestEndlessData(t *testing.T) {
	round := list(sym("x"), list())
	round.Items[1].Items = round.Items
	doubled := list()
	for range 60 {
		doubled = list(doubled, doubled)
	}
	for i, d := range []api.Datum{round, doubled, nest(1<<16, sym("x"), rows()[0]), list(times(1000, vec(times(1000, list())...))...)} {
		refusesMuch(t, d)
		for _, p := range []string{"a", "(a)", "(1 . a)", "#(1 a)", "(... a)", "((1 . a) 1)", "(1 . #(a))"} {
			fails(t, datum(p), []api.Bound{{Name: "a", D: d}}, dots, api.ErrLong)
		}
		for _, p := range []string{"(b ...)", "((b) ...)", "((1 . b) ...)", "(1 . #(b ...))"} {
			fails(t, datum(p), []api.Bound{{Name: "b", Depth: 1, Kids: []api.Bound{{Name: "b", D: d}}}}, dots, api.ErrLong)
		}
		if got, e := fill.Fill(datum("(x y)"), []api.Bound{{Name: "a", D: d}}, dots, nil); e != nil || !same(got, datum("(x y)")) {
			t.Errorf("Fill beside the datum %d: %.80s, %v", i, shown(got), e)
		}
	}
	again := api.Bound{Name: "b", Depth: 1, Kids: make([]api.Bound, 2)}
	again.Kids[0], again.Kids[1] = again, again
	for _, p := range []api.Datum{datum("(b ...)"), datum("((b ...) ...)"), list(append([]api.Datum{sym("b")}, times(3998, sym(dots))...)...)} {
		fill.Fill(p, []api.Bound{again}, dots, nil)
	}
}

// Rule 1: no call panics, where data or bounds aren't right; beside an error nothing is answered.
func TestWrongData(t *testing.T) {
	a := sym("a")
	wrong := []api.Datum{{}, {Kind: -1}, {Kind: 9, Items: []api.Datum{a}}, {Kind: api.DInt, Items: []api.Datum{a, a}}, {Kind: api.DSym}, {Kind: api.DSym, Text: "a", Items: []api.Datum{a}}, {Kind: api.DSym, Text: "x", N: 7, Items: []api.Datum{a}}, {Kind: api.DDot}, {Kind: api.DDot, Items: []api.Datum{a}}, {Kind: api.DDot, Items: []api.Datum{{Kind: api.DSym, Text: dots}}}, dot(a, list()), dot(a, list(num(1))), dot(a, dot(num(1), num(2))), dot(a, api.Datum{Kind: api.DDot}), {Kind: api.DList, N: 1, Text: "x"}, {Kind: minInt, N: maxInt, Text: "\xff\x00"}, {Kind: api.DVec, Items: []api.Datum{{}, {Kind: api.DDot}}}, list(api.Datum{Kind: api.DDot}, sym(dots)), list(sym(dots), api.Datum{Kind: api.DDot})}
	for _, more := range []string{"a", "_", "...", "(a ...)", "(b c ... . a)", "(b ... c b ... ...)", "#(b ... c)", "(x . ...)", "(... (a ...))", "((a b) ...)"} {
		wrong = append(wrong, datum(more))
	}
	kid := func(depth int, kids ...api.Bound) api.Bound { return api.Bound{Name: "b", Depth: depth, Kids: kids} }
	for _, p := range wrong {
		for _, d := range wrong {
			for i, bounds := range [][]api.Bound{
				nil, {{}}, {{Name: "a", D: d}}, {{Name: "a", D: d}, {Name: "c", Depth: 1, Kids: []api.Bound{{Name: "c", D: d}, {D: d}}}},
				{{Name: "a", Depth: -1, D: d}}, {{Name: "a", Depth: minInt}, kid(maxInt, kid(0), kid(-5), kid(9, kid(1)))}, {{Name: "a", Depth: 0, D: d, Kids: []api.Bound{{}}}, kid(1, kid(1, kid(1)), kid(0))}, {{Name: "a", Depth: 2, D: d}, kid(2, kid(1), kid(1, api.Bound{D: d}))}, {{Name: "", D: d}, {Name: "\xff", D: d}},
			} {
				for _, ellipsis := range []string{dots, "", "_", "a", "\x00"} {
					fill.Names(p, bounds, ellipsis)
					got, e := fill.Fill(p, bounds, ellipsis, []api.Pair{{}, {From: "x", To: "\xff"}, {From: "a"}})
					if e != nil && (!isEmpty(got) || !errors.Is(e, api.ErrForm) && !errors.Is(e, api.ErrLong)) {
						t.Errorf("Fill(%+v) with the bounds %d: %+v, %v", p, i, got, e)
					}
				}
			}
		}
	}
}
