package match_test

import (
	"slices"
	"strings"
	"testing"

	"spindle/api"
	"spindle/env"
	"spindle/match"
)

// P12.2: other ellipses, literals that are none or underscores, and names that are but like them.
func TestNamesOfPatterns(t *testing.T) {
	for _, c := range []struct{ p, literals, dots, d, want string }{
		{"(a etc)", "", "etc", "(1 2 3)", "a=[1 2 3]"}, {"(a etc b)", "", "etc", "(1 2 3)", "a=[1 2] b=3"}, {"(a ...)", "", "etc", "(1 2)", "a=1 ...=2"}, {"(a ...)", "", "etc", "(1 2 3)", "no"}, {"(... etc)", "", "etc", "(1 2)", "...=[1 2]"}, {"(a ...~5)", "", "...~5", "(1 2)", "a=[1 2]"}, {"(a ...~5)", "", dots, "(1 2)", "a=1 ...~5=2"}, {"(a ...~5)", "", dots, "(1 2 3)", "no"},
		{"(a ...)", "...", dots, "(1 ...)", "a=1"}, {"(a ...)", "...", dots, "(1 2)", "no"}, {"(a ...)", "...", dots, "(1)", "no"}, {"(a ...)", "...", dots, "(1 2 3)", "no"}, {"(... ...)", "...", dots, "(... ...)", ""}, {"...", "...", dots, "...", ""}, {"...", "...", dots, "1", "no"}, {"(a . ...)", "...", dots, "(1 . ...)", "a=1"}, {"(a . ...)", "...", dots, "(1 ...)", "no"}, {"(a ...)", "else ...", dots, "(1 ...~5)", "a=1"},
		{"(_ a)", "_", dots, "(_ 1)", "a=1"}, {"(_ a)", "_", dots, "(1 1)", "no"}, {"(_ a)", "_", dots, "(_~4 1)", "a=1"}, {"(_~4 a)", "", dots, "(1 2)", "_~4=1 a=2"}, {"(_ ...)", "_", dots, "(_ _)", ""}, {"(_ ...)", "_", dots, "(_ 1)", "no"},
		{"(else a)", "else", dots, "(else 1)", "a=1"}, {"(else a)", "else", dots, "(x 1)", "no"}, {"(else a)", "else", dots, "(1 1)", "no"}, {"(else a)", "else", dots, `("else" 1)`, "no"}, {"(else a)", "else", dots, "((else) 1)", "no"}, {"(else a)", "", dots, "(x 1)", "else=x a=1"}, {"(else a)", "els elsee", dots, "(x 1)", "else=x a=1"}, {"(else => a)", "=> else", dots, "(else => 1)", "a=1"}, {"(else => a)", "=> else", dots, "(=> else 1)", "no"},
		{"(else ... a)", "else", dots, "(else else 1)", "a=1"}, {"(else ... a)", "else", dots, "(else x 1)", "no"}, {"((else a ...) ...)", "else", dots, "((else 1 2) (else))", "a=[[1 2] []]"}, {"((else a ...) ...)", "else", dots, "((else 1 2) (x))", "no"},
		{"(a . else)", "else", dots, "(1 . else)", "a=1"}, {"(a . else)", "else", dots, "(1 else)", "no"}, {"(a ... . else)", "else", dots, "(1 2 . else)", "a=[1 2]"}, {"(a ... . else)", "else", dots, "(1 2)", "no"}, {"#(else)", "else", dots, "#(else)", ""}, {"else", "else", dots, "else", ""}, {"else", "else", dots, "x", "no"},
		{"(x~6 y)", "", dots, "(1 2)", "x~6=1 y=2"}, {"(x x~6)", "x~6", dots, "(1 x)", "x=1"}, {"(x x~6)", "x~6", dots, "(1 x~6)", "x=1"}, {"(x x~6)", "x~6", dots, "(1 y)", "no"}, {"(x x~6)", "x", dots, "(x 1)", "x~6=1"}, {"(x x~6)", "x", dots, "(x~6 1)", "x~6=1"},
	} {
		stands(t, datum(c.p), datum(c.d), namesOf(c.literals), strings.Join(namesOf(c.dots), ""), c.want)
	}
}

// P12.2: a literal matches what means the same where that is as it does where it is itself.
func TestLiterals(t *testing.T) {
	table := world(t)
	for _, c := range []struct {
		literal  string
		at, from int
		name     string
		want     bool
	}{
		// else is bound at 1, within the top; if at 2, within 1; the alias "else 1", which was made at the top, at 3, within 2.
		{"else", 0, 0, "else", true}, {"else", 1, 1, "else", true}, {"else", 1, 2, "else", true}, {"else", 3, 1, "else", true}, {"else", 0, 1, "else", false}, {"else", 1, 0, "else", false}, {"else", 0, 3, "else", false}, {"else", 0, 0, "if", false}, {"else", 1, 1, "if", false},
		{"if", 0, 0, "if", true}, {"if", 0, 1, "if", true}, {"if", 1, 0, "if", true}, {"if", 0, 2, "if", false}, {"if", 2, 3, "if", true}, {"if", 0, 0, "when", false}, {"when", 0, 0, "if", false}, {"x", 0, 3, "x", true}, {"x", 0, 0, "y", false},
		// Aliases mean what they were made of, where they were made.
		{"else", 0, 0, "else~1", true}, {"else", 0, 1, "else~1", true}, {"else", 1, 0, "else~1", false}, {"else", 0, 0, "else~2", false}, {"else", 1, 0, "else~2", true}, {"else", 2, 0, "else~2", true}, {"if", 0, 2, "if~3", true}, {"if", 2, 2, "if~3", false}, {"if", 0, 2, "if", false}, {"x", 2, 3, "x~6", true}, {"y", 0, 0, "x~6", false}, {"else", 0, 0, "else~7", true}, {"else", 0, 3, "else~7", true},
		{"else", 0, 3, "else~1", false}, {"else~1", 3, 3, "else~1", true}, {"else~1", 0, 0, "else", true}, {"else~1", 0, 1, "else", false}, {"else~2", 0, 1, "else", true}, {"else~2", 0, 0, "else", false}, {"else~1", 0, 0, "else~2", false}, {"else~1", 0, 0, "else~7", true}, {"else~2", 0, 0, "else~2", true}, {"x~6", 0, 0, "x", true},
		// What isn't there means nothing, not even the same.
		{"else", 4, 4, "else", false}, {"else", 0, 4, "else", false}, {"else", 4, 0, "else", false}, {"else", -1, -1, "else", false}, {"else", 0, -1, "else", false}, {"else", minInt, maxInt, "else", false}, {"x~9", 0, 0, "x~9", false}, {"x~9", 0, 0, "x", false}, {"x", 0, 0, "x~9", false}, {"x", 0, 0, "x~1", false},
	} {
		name := namesOf(c.literal)[0]
		d := datum(c.name)
		for _, literals := range [][]string{{name}, {"foo", name}, {name, name, "bar"}} {
			bounds, ok := match.Match(table, c.at, sym(name), c.from, d, literals, dots)
			if ok != c.want || len(bounds) > 0 {
				t.Errorf("Match(%d, %s, %d, %s) with %q: %s, %v", c.at, c.literal, c.from, c.name, literals, allSaid(bounds), ok)
			}
			bounds, ok = match.Match(table, c.at, list(sym(name), sym(dots), sym("v")), c.from, list(d, d, num(5)), literals, dots)
			if ok != c.want || ok && allSaid(bounds) != "v=5" || !ok && bounds != nil {
				t.Errorf("Match(%d, (%s ... v), %d, (%s %s 5)) with %q: %s, %v", c.at, c.literal, c.from, c.name, c.name, literals, allSaid(bounds), ok)
			}
		}
	}
}

// P12.2: only literals are looked up; places count for nothing else.
func TestPlacesWithoutLiterals(t *testing.T) {
	for _, place := range []int{0, 1, -1, 5, minInt, maxInt} {
		for _, literals := range [][]string{nil, {"else"}} {
			bounds, ok := match.Match(env.New(), place, datum("(a b ... 1)"), -place, datum("(else x~9 1)"), literals, dots)
			if !ok || allSaid(bounds) != "a=else b=[x~9]" {
				t.Errorf("Match at the place %d: %s, %v", place, allSaid(bounds), ok)
			}
		}
	}
}

// P12.2: without a table nothing matches.
func TestNoTable(t *testing.T) {
	for _, c := range [][2]string{{"a", "1"}, {"_", "1"}, {"1", "1"}, {"()", "()"}, {"(a ...)", "(1)"}, {"else", "else"}, {"...", "1"}} {
		if bounds, ok := match.Match(nil, 0, datum(c[0]), 0, datum(c[1]), []string{"else"}, dots); ok || bounds != nil {
			t.Errorf("Match(nil) of %s and %s: %s, %v", c[0], c[1], allSaid(bounds), ok)
		}
	}
}

// P12.2: the table is used, but it means what it meant.
func TestTableStays(t *testing.T) {
	table := world(t)
	for range 3 {
		match.Match(table, 1, datum("(else a ...)"), 2, datum("(else 1 2)"), []string{"else"}, dots)
	}
	if s, e := table.Alias("x", 3); s != "x 8" || e != nil {
		t.Errorf("the next alias is %q, %v", s, e)
	}
	if n, e := table.Extend(3, "x", api.Meaning{Kind: api.MLocal}); n != 4 || e != nil {
		t.Errorf("the next place is %d, %v", n, e)
	}
	if m, e := table.Find(0, "if"); m != (api.Meaning{Kind: api.MCore, N: 2}) || e != nil {
		t.Errorf("if means %v, %v", m, e)
	}
}

// spared is d, each of whose rows has spare room, filled with marks.
func spared(d api.Datum) api.Datum {
	var items []api.Datum
	for _, item := range d.Items {
		items = append(items, spared(item))
	}
	n := len(items)
	items = append(items, sym("spare"), sym("spare"), sym("spare"))
	d.Items = items[:n]
	return d
}

// isSpared tells whether d's spare room is still as spared made it.
func isSpared(d api.Datum) bool {
	n := len(d.Items)
	for _, item := range d.Items[n : n+3] {
		if !same(item, sym("spare")) {
			return false
		}
	}
	return !slices.ContainsFunc(d.Items, func(item api.Datum) bool { return !isSpared(item) })
}

// spoil puts other things into all lists of a bound, into their spare room, too.
func spoil(b api.Bound) {
	spoilDatum(b.D)
	for _, kid := range b.Kids {
		spoil(kid)
	}
	for i := range b.Kids[:cap(b.Kids)] {
		b.Kids[:cap(b.Kids)][i] = api.Bound{Name: "spoilt"}
	}
}

func spoilDatum(d api.Datum) {
	for _, item := range d.Items {
		spoilDatum(item)
	}
	for i := range d.Items[:cap(d.Items)] {
		d.Items[:cap(d.Items)][i] = sym("spoilt")
	}
}

// Rule 5: what is handed in stays as it is, its spare room too; what is answered is new memory, and no two lists of it share any.
func TestNewMemory(t *testing.T) {
	for _, c := range [][2]string{
		{"a", "(1 (2 3) #(4) . 5)"}, {"(a b)", "((1 2) (3))"}, {"(a . r)", "((1) (2) (3) . (4 . 5))"}, {"(a . r)", "((1) . #(2))"}, {"(a ...)", "((1) (2) (3))"}, {"(a ... b)", "((1) (2) (3))"}, {"(a ... . r)", "((1) (2) . #(3))"}, {"((k v ...) ...)", "(((1) (2) (3)) ((4)))"}, {"#(a b ... c)", "#((1) (2) (3) (4))"}, {"(else a ... . r)", "(else (1) (2) . x)"}, {"(a (b c) ... d . r)", "((1) ((2) (3)) ((4) (5)) (6) . #(7))"},
	} {
		p, d := spared(datum(c[0])), spared(datum(c[1]))
		literals := []string{"else", "if", "spare", "spare"}[:2]
		want, ok := match.Match(world(t), 0, datum(c[0]), 0, datum(c[1]), []string{"else"}, dots)
		if !ok {
			t.Fatal(c)
		}
		text := allSaid(want)
		for i := range want {
			got, ok := match.Match(world(t), 0, p, 0, d, literals, dots)
			if !ok || allSaid(got) != text {
				t.Fatalf("Match of %s and %s: %s; want %s", c[0], c[1], allSaid(got), text)
			}
			spoil(got[i])
			got[i] = want[i]
			if !slices.EqualFunc(got, want, sameBound) {
				t.Errorf("Match of %s and %s: others changed with %s", c[0], c[1], want[i].Name)
			}
		}
		if e := match.Check(p, literals, dots); e != nil {
			t.Error(c[0], e)
		}
		vars := match.Vars(p, literals, dots)
		for i := range vars {
			vars[i] = api.Pair{From: "spoilt"}
		}
		if !same(p, datum(c[0])) || !same(d, datum(c[1])) || !isSpared(p) || !isSpared(d) || strings.Join(literals[:4], " ") != "else if spare spare" {
			t.Errorf("%s, or %s, or the literals, changed", c[0], c[1])
		}
	}
}

// Rule 5: a datum that has a list twice gives each variable its own.
func TestSharedLists(t *testing.T) {
	one := list(num(1), num(2))
	for _, c := range []struct {
		p string
		d api.Datum
	}{{"(a b)", list(one, one)}, {"(a ...)", list(one, one)}, {"((a) (b) . c)", dot(list(one), list(one), vec(one))}, {"a", list(one, one)}} {
		bounds, ok := match.Match(world(t), 0, datum(c.p), 0, c.d, nil, dots)
		if !ok {
			t.Fatal(c.p)
		}
		text := allSaid(bounds)
		var lists []api.Datum
		for _, b := range bounds {
			lists = append(lists, within(b)...)
		}
		for i, d := range lists {
			d.Items[0] = num(i + 10)
			for j, other := range lists {
				if j != i && same(other.Items[0], num(i+10)) {
					t.Errorf("%s of %s: two lists share their items", c.p, text)
				}
			}
		}
		if !same(one, list(num(1), num(2))) {
			t.Errorf("%s of %s: shares its items with the datum", c.p, text)
		}
	}
}

// within are all lists of numbers in a bound.
func within(b api.Bound) []api.Datum {
	var all []api.Datum
	for _, kid := range b.Kids {
		all = append(all, within(kid)...)
	}
	var look func(d api.Datum)
	look = func(d api.Datum) {
		if len(d.Items) > 0 && d.Items[0].Kind == api.DInt {
			all = append(all, d)
		}
		for _, item := range d.Items {
			look(item)
		}
	}
	look(b.D)
	return all
}
