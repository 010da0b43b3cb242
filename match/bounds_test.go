package match_test

import (
	"errors"
	"slices"
	"strconv"
	"testing"

	"spindle/api"
	"spindle/match"
)

// times is so many times the same.
func times(n int, d api.Datum) []api.Datum { return slices.Repeat([]api.Datum{d}, n) }

// each is n names, each another one.
func each(n int) []api.Datum {
	var all []api.Datum
	for i := range n {
		all = append(all, sym("v"+strconv.Itoa(i)))
	}
	return all
}

// nest is d within so many rows that all are n within one another.
func nest(n int, d api.Datum, row func(d api.Datum) api.Datum) api.Datum {
	for range n - 1 {
		d = row(d)
	}
	return d
}

// rows are ways to stand within a row.
func rows() []func(d api.Datum) api.Datum {
	return []func(d api.Datum) api.Datum{
		func(d api.Datum) api.Datum { return list(d) },
		func(d api.Datum) api.Datum { return vec(d) },
		func(d api.Datum) api.Datum { return vec(num(1), d) },
		func(d api.Datum) api.Datum { return list(sym("_"), d, num(1)) },
		func(d api.Datum) api.Datum { return dot(d, num(1)) },
		func(d api.Datum) api.Datum { return dot(num(1), vec(d)) },
	}
}

// takes holds that p may be a pattern, with so many variables.
func takes(t *testing.T, p api.Datum, vars int) {
	t.Helper()
	if e := match.Check(p, nil, dots); e != nil {
		t.Errorf("Check(%.80s): %v", shown(p), e)
	}
	if got := match.Vars(p, nil, dots); len(got) != vars {
		t.Errorf("Vars(%.80s): %d; want %d", shown(p), len(got), vars)
	}
}

// refusesMuch holds that p, which is too much of a pattern, is refused, and matches nothing. Whether it has variables is left open.
func refusesMuch(t *testing.T, p api.Datum, fits ...api.Datum) {
	t.Helper()
	if e := match.Check(p, nil, dots); !errors.Is(e, api.ErrForm) {
		t.Errorf("Check(%.80s): %v; want %v", shown(p), e, api.ErrForm)
	}
	match.Vars(p, nil, dots)
	for _, d := range fits {
		if bounds, ok := match.Match(world(t), 0, p, 0, d, nil, dots); ok || bounds != nil {
			t.Errorf("Match of %.80s and %.80s: %d bounds, %v", shown(p), shown(d), len(bounds), ok)
		}
	}
}

// P12.1: a pattern has at most 4000 parts; an ellipsis is one, too.
func TestPatternParts(t *testing.T) {
	for _, n := range []int{3990, 3998, 3999, 4000, 4001, 4002, 5000, 6000} {
		for i, c := range []struct {
			p    api.Datum
			vars int
			d    api.Datum
		}{
			{list(each(n - 1)...), n - 1, list(times(n-1, num(1))...)},
			{vec(each(n - 1)...), n - 1, vec(times(n-1, num(1))...)},
			{dot(each(n - 1)...), n - 1, dot(times(n-1, num(1))...)},
			{list(append(each(n-2), sym(dots))...), n - 2, list(times(n-3, num(1))...)},
			{list(list(each(n-3)...), sym(dots)), n - 3, list()},
			{list(times(n-1, num(7))...), 0, list(times(n-1, num(7))...)},
			{list(vec(times(n-3, sym("_"))...), sym("a")), 1, list(vec(times(n-3, num(7))...), num(1))},
		} {
			if n > 4000 {
				refusesMuch(t, c.p, c.d)
				continue
			}
			takes(t, c.p, c.vars)
			bounds, ok := match.Match(world(t), 0, c.p, 0, c.d, nil, dots)
			if !ok || len(bounds) != c.vars {
				t.Errorf("Match of the pattern %d of %d parts: %d bounds, %v", i, n, len(bounds), ok)
			}
		}
	}
}

// P12.1: a pattern has at most 64 data within one another, in each kind of row.
func TestPatternDepth(t *testing.T) {
	for i, row := range rows() {
		for _, inner := range []struct {
			p api.Datum
			n int
		}{{sym("a"), 1}, {num(1), 1}, {list(), 1}, {list(sym("a"), sym(dots)), 2}, {dot(num(1), sym("a")), 2}} {
			p := inner.p
			for n := inner.n; n <= 140; n = deep(p) {
				fits := renamed(p, "a", "b")
				switch {
				case n > 64:
					refusesMuch(t, p, fits)
				case inner.p.Kind == api.DSym || inner.n == 2:
					takes(t, p, 1)
				default:
					takes(t, p, 0)
				}
				p = row(p)
			}
		}
		if i == 0 {
			takes(t, nest(64, sym("a"), row), 1)
			refusesMuch(t, nest(65, sym("a"), row), nest(65, num(1), row), nest(64, num(1), row))
		}
	}
}

// deep is how many data are within one another.
func deep(d api.Datum) int {
	most := 0
	for _, item := range d.Items {
		most = max(most, deep(item))
	}
	return 1 + most
}

// P12.1, P12.2: as many ellipses within one another as there may be.
func TestDeepEllipses(t *testing.T) {
	p, d := sym("a"), num(5)
	for depth := 1; depth <= 63; depth++ {
		p, d = list(p, sym(dots)), list(d)
		vars := match.Vars(p, nil, dots)
		if len(vars) != 1 || len(vars[0].To) != depth {
			t.Fatalf("Vars at the depth %d: %v", depth, vars)
		}
		bounds, ok := match.Match(world(t), 0, p, 0, d, nil, dots)
		if !ok || len(bounds) != 1 || !isWhole(bounds[0], "a", depth) {
			t.Fatalf("Match at the depth %d: %s, %v", depth, allSaid(bounds), ok)
		}
		b := bounds[0]
		for b.Depth > 0 && len(b.Kids) == 1 {
			b = b.Kids[0]
		}
		if !same(b.D, num(5)) || len(b.Kids) > 0 {
			t.Errorf("at the depth %d stands %s", depth, said(b))
		}
	}
	refusesMuch(t, list(p, sym(dots)), list(d), list())
}

// P12.2: a datum has at most 4000 parts, also where the pattern looks at none of them.
func TestDatumParts(t *testing.T) {
	for _, n := range []int{3990, 3999, 4000, 4001, 4002, 5000, 6000} {
		for i, c := range []struct{ p, d api.Datum }{
			{sym("_"), list(times(n-1, num(1))...)}, {sym("a"), list(times(n-1, num(1))...)}, {sym("a"), vec(times(n-1, list())...)}, {sym("a"), list(sym("x"), list(times(n-3, num(1))...))}, {list(sym("a"), sym(dots)), list(times(n-1, num(1))...)}, {dot(sym("_"), sym("r")), dot(times(n-1, num(1))...)}, {list(sym("_")), list(vec(times(n-2, num(1))...))},
		} {
			bounds, ok := match.Match(world(t), 0, c.p, 0, c.d, nil, dots)
			if ok != (n <= 4000) || !ok && bounds != nil {
				t.Errorf("Match of the pattern %d, and a datum of %d parts: %d bounds, %v", i, n, len(bounds), ok)
			}
		}
	}
}

// P12.2: a datum has at most 64 data within one another, likewise.
func TestDatumDepth(t *testing.T) {
	for _, row := range rows() {
		for _, inner := range []api.Datum{num(1), list(), list(num(1)), vec()} {
			d := inner
			for n := deep(d); n <= 140; n = deep(d) {
				for _, p := range []string{"a", "_"} {
					bounds, ok := match.Match(world(t), 0, sym(p), 0, d, nil, dots)
					if ok != (n <= 64) || !ok && bounds != nil {
						t.Errorf("Match of %s and %d data within one another, %.80s: %v", p, n, shown(d), ok)
					}
				}
				d = row(d)
			}
		}
	}
	for _, n := range []int{62, 63, 64, 65} {
		d := list(num(1), nest(n, num(1), rows()[0]))
		if _, ok := match.Match(world(t), 0, datum("(_ _)"), 0, d, nil, dots); ok != (n < 64) {
			t.Errorf("Match of a list with one that is %d deep: %v", n, ok)
		}
	}
}

// P12.2: where a row is as long as may be, all that stands in it is there, in order.
func TestLongRows(t *testing.T) {
	var items []api.Datum
	for i := range 3999 {
		items = append(items, num(i))
	}
	for _, c := range []struct{ p, row api.Datum }{{datum("(a b ... c)"), list(items...)}, {datum("#(a b ... c)"), vec(items...)}, {datum("(a b ... . c)"), dot(items...)}} {
		bounds, ok := match.Match(world(t), 0, c.p, 0, c.row, nil, dots)
		if !ok || len(bounds) != 3 || len(bounds[1].Kids) != 3997 || !same(bounds[0].D, num(0)) || !same(bounds[2].D, num(3998)) {
			t.Fatalf("Match of %s: %d bounds, %v", shown(c.p), len(bounds), ok)
		}
		for i, kid := range bounds[1].Kids {
			if !same(kid.D, num(i+1)) {
				t.Fatalf("the item %d of %s is %s", i+1, shown(c.p), said(kid))
			}
		}
	}
}

// P12.2: many variables within many things that an ellipsis takes, as many as there are.
func TestManyKids(t *testing.T) {
	p := list(list(list(each(700)...), sym(dots)), sym(dots))
	d := list(times(700, list())...)
	bounds, ok := match.Match(world(t), 0, p, 0, d, nil, dots)
	if !ok || len(bounds) != 700 {
		t.Fatalf("Match: %d bounds, %v", len(bounds), ok)
	}
	for i, b := range bounds {
		if len(b.Kids) != 700 || !isWhole(b, "v"+strconv.Itoa(i), 2) || slices.ContainsFunc(b.Kids, func(kid api.Bound) bool { return len(kid.Kids) > 0 }) {
			t.Fatalf("the variable %d: %d kids", i, len(b.Kids))
		}
	}
}

// P12.1: there are as many literals as one likes.
func TestManyLiterals(t *testing.T) {
	var literals []string
	for i := range 1 << 16 {
		literals = append(literals, "v"+strconv.Itoa(i))
	}
	p := list(each(1000)...)
	if e := match.Check(p, literals, dots); e != nil {
		t.Error(e)
	}
	if vars := match.Vars(p, literals[1:999], dots); allVars(vars) != "v0 v999" {
		t.Errorf("Vars: %s", allVars(vars))
	}
	if bounds, ok := match.Match(world(t), 0, p, 0, p, literals, dots); !ok || len(bounds) > 0 {
		t.Errorf("Match: %s, %v", allSaid(bounds), ok)
	}
}

// Rule 1: all calls end, where data go round, are very deep, or have their parts many times over.
func TestEndlessData(t *testing.T) {
	round := list(sym("a"), list())
	round.Items[1].Items = round.Items
	doubled := list()
	for range 60 {
		doubled = list(doubled, doubled)
	}
	for i, d := range []api.Datum{round, doubled, nest(1<<16, sym("a"), rows()[0]), list(times(1000, vec(times(1000, list())...))...)} {
		refusesMuch(t, d, d, list(), num(1))
		if bounds, ok := match.Match(world(t), 0, sym("a"), 0, d, nil, dots); ok || bounds != nil {
			t.Errorf("Match of the datum %d: %v", i, ok)
		}
	}
}

// Rule 1: no call panics, where a datum isn't right.
func TestWrongData(t *testing.T) {
	a := sym("a")
	wrong := []api.Datum{{}, {Kind: -1}, {Kind: 9, Items: []api.Datum{a}}, {Kind: api.DInt, Items: []api.Datum{a, a}}, {Kind: api.DSym}, {Kind: api.DSym, Text: "a", Items: []api.Datum{a}}, {Kind: api.DDot}, {Kind: api.DDot, Items: []api.Datum{a}}, {Kind: api.DDot, Items: []api.Datum{{Kind: api.DSym, Text: dots}}}, dot(a, list()), dot(a, list(num(1))), dot(a, dot(num(1), num(2))), dot(a, api.Datum{Kind: api.DDot}), {Kind: api.DList, N: 1, Text: "x"}, {Kind: minInt, N: minInt, Text: "\xff\x00"}, {Kind: api.DVec, Items: []api.Datum{{}, {Kind: api.DDot}}}}
	for _, more := range []string{"a", "_", "(a ...)", "(b c ... . d)", "(b . c)", "(b ... c d)", "#(b ... c)", "1", "()", "(1 2 . 3)"} {
		wrong = append(wrong, datum(more))
	}
	for _, p := range wrong {
		for _, d := range wrong {
			for _, literals := range [][]string{nil, {""}, {"a", ""}, {"\xff", "", dots}} {
				for _, ellipsis := range []string{dots, "", "_", "a", "\x00"} {
					match.Check(p, literals, ellipsis)
					match.Vars(p, literals, ellipsis)
					if bounds, ok := match.Match(world(t), 0, p, 0, d, literals, ellipsis); !ok && bounds != nil {
						t.Errorf("Match of %+v and %+v: false, and %s", p, d, allSaid(bounds))
					}
				}
			}
		}
	}
}
