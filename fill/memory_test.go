package fill_test

import (
	"slices"
	"testing"

	"spindle/api"
	"spindle/fill"
)

// spared is d, each of whose rows has spare room, filled with marks.
func spared(d api.Datum) api.Datum {
	var items []api.Datum
	for _, item := range d.Items {
		items = append(items, spared(item))
	}
	n := len(items)
	items = append(items, sym("spare"), sym("spare"), sym("spare"))
	d.Items = items[:n]
	return d
}

// sparedBound is b likewise.
func sparedBound(b api.Bound) api.Bound {
	b.D = spared(b.D)
	var kids []api.Bound
	for _, kid := range b.Kids {
		kids = append(kids, sparedBound(kid))
	}
	n := len(kids)
	kids = append(kids, api.Bound{Name: "spare"}, api.Bound{Name: "spare"})
	b.Kids = kids[:n]
	return b
}

// isSpared tells whether d's spare room is still as spared made it.
func isSpared(d api.Datum) bool {
	n := len(d.Items)
	for _, item := range d.Items[n : n+3] {
		if !same(item, sym("spare")) {
			return false
		}
	}
	return !slices.ContainsFunc(d.Items, func(item api.Datum) bool { return !isSpared(item) })
}

// isSparedBound tells the same of a bound.
func isSparedBound(b api.Bound) bool {
	n := len(b.Kids)
	for _, kid := range b.Kids[n : n+2] {
		if !sameBound(kid, api.Bound{Name: "spare"}) {
			return false
		}
	}
	return isSpared(b.D) && !slices.ContainsFunc(b.Kids, func(kid api.Bound) bool { return !isSparedBound(kid) })
}

// sameBound tells whether two bounds are alike in all fields.
func sameBound(a, b api.Bound) bool {
	return a.Name == b.Name && a.Depth == b.Depth && same(a.D, b.D) && slices.EqualFunc(a.Kids, b.Kids, sameBound)
}

// spoil puts other things into all lists of d, into their spare room, too.
func spoil(d api.Datum) {
	for _, item := range d.Items {
		spoil(item)
	}
	for i := range d.Items[:cap(d.Items)] {
		d.Items[:cap(d.Items)][i] = sym("spoilt")
	}
}

// templates are some that use all that there is.
func templates() []string {
	return []string{"a", "(1 (2) #(3) . 4)", "(a a . a)", "(a . #(a))", "((a b) ... . a)", "(b ... . c)", "(b ... a b ...)", "(d ... ...)", "((d ... b) ...)", "(... (a ...))", "((... (b ...)) ...)", "(x (y . z) a)", "(b ... . a)", "(e ... . a)", "(e ... . #(x))", "((x ((y)) (1 (2))) ...)", "(b x ... a)", "(d ...)", "#(a (b ...) x)"}
}

// Rule 5: what is handed in stays as it is, its spare room too; what is answered is new memory.
func TestNewMemory(t *testing.T) {
	const standing, calling = "a (1 (2)) b* ((3) #(4)) c ((5) . 6) d** (((7)) ((8 9) ())) e* ()", "x x~1 y y~2"
	for _, text := range templates() {
		p := spared(datum(text))
		var bounds []api.Bound
		for _, b := range stands(standing) {
			bounds = append(bounds, sparedBound(b))
		}
		bounds = append(bounds, api.Bound{Name: "spare"})[:len(bounds)]
		pairs := append(calls(calling), api.Pair{From: "spare"})[:2]
		want, e := fill.Fill(p, bounds, dots, pairs)
		for range 3 {
			got, again := fill.Fill(p, bounds, dots, pairs)
			if again != e || !same(got, want) {
				t.Fatalf("Fill(%s) again: %s, %v", text, shown(got), again)
			}
			spoil(got)
			names := fill.Names(p, bounds, dots)
			for i := range names[:cap(names)] {
				names[:cap(names)][i] = "spoilt"
			}
		}
		if !same(p, datum(text)) || !isSpared(p) {
			t.Errorf("Fill(%s): the template changed", text)
		}
		isChanged := func(b api.Bound) bool { return !isSparedBound(b) }
		if !slices.EqualFunc(bounds, stands(standing), sameBound) || slices.ContainsFunc(bounds, isChanged) || bounds[:6][5].Name != "spare" {
			t.Errorf("Fill(%s): the bounds changed", text)
		}
		if !slices.Equal(pairs, calls(calling)) || pairs[:3][2].From != "spare" {
			t.Errorf("Fill(%s): the pairs changed", text)
		}
	}
}

// lists are all that are in d, and have items.
func lists(d api.Datum) []api.Datum {
	var all []api.Datum
	if len(d.Items) > 0 {
		all = append(all, d)
	}
	for _, item := range d.Items {
		all = append(all, lists(item)...)
	}
	return all
}

// Rule 5: no two lists of an answer share their items, also where a variable stands several times, or things are shared in what is handed in.
func TestSharedLists(t *testing.T) {
	one := list(num(1), num(2))
	shared := []api.Bound{{Name: "a", D: one}, {Name: "b", Depth: 1, Kids: []api.Bound{{Name: "b", D: one}, {Name: "b", D: one}}}, {Name: "c", D: dot(one, one, vec(one))}}
	for _, p := range []api.Datum{datum("(a a)"), datum("(a . a)"), datum("(b ... b ...)"), datum("((a b) ...)"), datum("((b . b) ... . b2)"), datum("(c a . c)"), datum("((b (... b)) ...)"), list(one, one, vec(one)), dot(one, list(one), vec(one)), list(sym(dots), list(one, one))} {
		got, e := fill.Fill(p, shared, dots, nil)
		if e != nil {
			t.Fatal(shown(p), e)
		}
		all := lists(got)
		for i, d := range all {
			d.Items[0] = num(100 + i)
		}
		for i, d := range all {
			if !same(d.Items[0], num(100+i)) {
				t.Errorf("Fill(%s): two lists share their items", shown(p))
			}
		}
		if !same(one, list(num(1), num(2))) {
			t.Fatalf("Fill(%s): the answer shares its items with what was handed in", shown(p))
		}
	}
}
