package match_test

import (
	"errors"
	"slices"
	"strings"
	"testing"

	"spindle/api"
	"spindle/env"
	"spindle/match"
)

// What follows is the chapter's matching a second time, over pairs: a list is a first thing and a rest, a vector is a list with a mark.

type node struct {
	what        int
	first, rest *node // of a pair; of a vector first is the list of what it has
	is          api.Datum
}

const (
	isPair = iota
	isNil
	isVector
	isAtom
)

// chain is a list of these with that end.
func chain(items []api.Datum, end *node) *node {
	for _, item := range slices.Backward(items) {
		end = &node{what: isPair, first: nodeOf(item), rest: end}
	}
	return end
}

// nodeOf is a right datum as pairs.
func nodeOf(d api.Datum) *node {
	switch n := len(d.Items) - 1; d.Kind {
	case api.DList:
		return chain(d.Items, &node{what: isNil})
	case api.DVec:
		return &node{what: isVector, first: chain(d.Items, &node{what: isNil})}
	case api.DDot:
		return chain(d.Items[:n], nodeOf(d.Items[n]))
	}
	return &node{what: isAtom, is: d}
}

// datum is the right one that the pairs are.
func (n *node) datum() api.Datum {
	switch n.what {
	case isAtom:
		return n.is
	case isVector:
		return vec(n.first.datum().Items...)
	}
	var items []api.Datum
	for ; n.what == isPair; n = n.rest {
		items = append(items, n.first.datum())
	}
	if n.what == isNil {
		return list(items...)
	}
	return dot(append(items, n.datum())...)
}

// length is how many pairs there are, one the rest of the other.
func (n *node) length() int {
	if n.what != isPair {
		return 0
	}
	return 1 + n.rest.length()
}

// model knows what names are, and what one means like another one.
type model struct {
	literals []string
	ellipsis string
	means    func(literal, name string) bool
}

func (m *model) isLiteral(name string) bool { return slices.Contains(m.literals, name) }

func (m *model) isEllipsis(n *node) bool {
	return n.what == isAtom && n.is.Kind == api.DSym && n.is.Text == m.ellipsis && !m.isLiteral(n.is.Text)
}

func (m *model) isVariable(n *node) bool {
	return n.what == isAtom && n.is.Kind == api.DSym && !m.isEllipsis(n) && !m.isLiteral(n.is.Text) && n.is.Text != "_"
}

// isRepeated tells whether an ellipsis stands behind the first thing of a pair.
func (m *model) isRepeated(p *node) bool { return p.rest.what == isPair && m.isEllipsis(p.rest.first) }

// vars puts p's variables to all; false, if an ellipsis stands where it may not. Within a row one may be seen.
func (m *model) vars(p *node, stars string, seen bool, all *[]api.Pair) bool {
	switch {
	case m.isEllipsis(p):
		return false
	case m.isVariable(p):
		*all = append(*all, api.Pair{From: p.is.Text, To: stars})
	case p.what == isVector:
		return m.vars(p.first, stars, false, all)
	case p.what == isPair && m.isRepeated(p):
		return !seen && m.vars(p.first, stars+"*", false, all) && m.vars(p.rest.rest, stars, true, all)
	case p.what == isPair:
		return m.vars(p.first, stars, false, all) && m.vars(p.rest, stars, seen, all)
	}
	return true
}

// pattern are p's variables; false, if it may be none.
func (m *model) pattern(p api.Datum) ([]api.Pair, bool) {
	var all []api.Pair
	if !m.vars(nodeOf(p), "", false, &all) {
		return nil, false
	}
	for i, v := range all {
		if slices.ContainsFunc(all[:i], func(other api.Pair) bool { return other.From == v.From }) {
			return nil, false
		}
	}
	return all, true
}

// match puts to found what p's variables stand for in d; false, if it doesn't match.
func (m *model) match(p, d *node, found map[string]api.Bound) bool {
	switch {
	case m.isVariable(p):
		found[p.is.Text] = api.Bound{Name: p.is.Text, D: d.datum()}
		return true
	case p.what == isPair || p.what == isNil:
		return (d.what == isPair || d.what == isNil) && m.row(p, d, found)
	case p.what == isAtom && p.is.Kind == api.DSym && !m.isLiteral(p.is.Text):
		return true
	case p.what != d.what:
		return false
	case p.what == isVector:
		return m.row(p.first, d.first, found)
	case p.is.Kind == api.DSym:
		return d.is.Kind == api.DSym && m.means(p.is.Text, d.is.Text)
	}
	return same(p.is, d.is)
}

// row is match of what is left of a row, and its end.
func (m *model) row(p, d *node, found map[string]api.Bound) bool {
	switch {
	case p.what == isNil:
		return d.what == isNil
	case p.what != isPair:
		return m.match(p, d, found)
	case m.isRepeated(p):
		return m.repeated(p, d, found)
	}
	return d.what == isPair && m.match(p.first, d.first, found) && m.row(p.rest, d.rest, found)
}

// repeated is row of a pair behind whose first thing an ellipsis stands.
func (m *model) repeated(p, d *node, found map[string]api.Bound) bool {
	var vars []api.Pair
	m.vars(p.first, "*", false, &vars)
	for _, v := range vars {
		found[v.From] = api.Bound{Name: v.From, Depth: len(v.To)}
	}
	behind := p.rest.rest
	for left := d.length() - behind.length(); left > 0; left-- {
		one := map[string]api.Bound{}
		if !m.match(p.first, d.first, one) {
			return false
		}
		for _, v := range vars {
			b := found[v.From]
			b.Kids = append(b.Kids, one[v.From])
			found[v.From] = b
		}
		d = d.rest
	}
	return m.row(behind, d, found)
}

// bounds are what p's variables stand for in d, in order; false, if it doesn't match.
func (m *model) bounds(p, d api.Datum) ([]api.Bound, bool) {
	vars, ok := m.pattern(p)
	found := map[string]api.Bound{}
	if !ok || !m.match(nodeOf(p), nodeOf(d), found) {
		return nil, false
	}
	var bounds []api.Bound
	for _, v := range vars {
		bounds = append(bounds, found[v.From])
	}
	return bounds, true
}

// agreesPattern holds Check and Vars of p against the model; it tells whether p may be a pattern.
func (m *model) agreesPattern(t *testing.T, p api.Datum) bool {
	t.Helper()
	vars, ok := m.pattern(p)
	if e := match.Check(p, m.literals, m.ellipsis); (e == nil) != ok || !ok && !errors.Is(e, api.ErrForm) {
		t.Fatalf("Check(%s, %q, %s): %v", shown(p), m.literals, m.ellipsis, e)
	}
	if got := match.Vars(p, m.literals, m.ellipsis); !slices.Equal(got, vars) {
		t.Fatalf("Vars(%s, %q, %s) = %v; want %v", shown(p), m.literals, m.ellipsis, got, vars)
	}
	return ok
}

// agrees holds Match of p and d against the model; it tells whether they match.
func (m *model) agrees(t *testing.T, table *env.Table, p, d api.Datum) bool {
	t.Helper()
	want, ok := m.bounds(p, d)
	got, yes := match.Match(table, 0, p, 0, d, m.literals, m.ellipsis)
	if ok != yes || !slices.EqualFunc(got, want, sameBound) {
		t.Fatalf("Match of %s and %s, with %q and %s: %s, %v; want %s, %v", shown(p), shown(d), m.literals, m.ellipsis, allSaid(got), yes, allSaid(want), ok)
	}
	return ok
}

// worldly is a model of what world's table says at the top.
func worldly(ellipsis string, literals ...string) *model {
	symbol := func(name string) string {
		if name == "else 2" {
			return name // bound where it was made
		}
		name, _, _ = strings.Cut(name, " ")
		return name
	}
	return &model{literals: literals, ellipsis: ellipsis, means: func(literal, name string) bool { return symbol(literal) == symbol(name) }}
}

// sized are all right data of just so many parts, those of one part being these.
func sized(parts int, ones []api.Datum) []api.Datum {
	if parts == 1 {
		return append([]api.Datum{list(), vec()}, ones...)
	}
	var all []api.Datum
	for _, items := range sizedRows(parts-1, ones) {
		all = append(all, list(items...), vec(items...))
		if last := items[len(items)-1].Kind; len(items) > 1 && last != api.DList && last != api.DDot {
			all = append(all, dot(items...))
		}
	}
	return all
}

// sizedRows are all rows of data of so many parts in all.
func sizedRows(parts int, ones []api.Datum) [][]api.Datum {
	if parts == 0 {
		return [][]api.Datum{nil}
	}
	var all [][]api.Datum
	for first := 1; first <= parts; first++ {
		rests := sizedRows(parts-first, ones)
		for _, d := range sized(first, ones) {
			for _, rest := range rests {
				all = append(all, append([]api.Datum{d}, rest...))
			}
		}
	}
	return all
}

// upTo are all data of at most so many parts.
func upTo(parts int, ones []api.Datum) []api.Datum {
	var all []api.Datum
	for n := 1; n <= parts; n++ {
		all = append(all, sized(n, ones)...)
	}
	return all
}

// P12.1, P12.2: all small patterns, and all small data.
func TestSmallPatterns(t *testing.T) {
	table := world(t)
	m := worldly(dots, "else")
	matched := 0
	for _, c := range []struct {
		patterns, data []api.Datum
	}{{upTo(4, data("a _ ... else 1")), upTo(4, data("1 else"))}, {upTo(4, data("a b ...")), upTo(4, data("1"))}, {upTo(5, data("a ...")), upTo(4, data("1"))}} {
		for _, p := range c.patterns {
			if !m.agreesPattern(t, p) {
				continue
			}
			for _, d := range c.data {
				if m.agrees(t, table, p, d) {
					matched++
				}
			}
		}
	}
	if matched < 10000 {
		t.Errorf("only %d matched", matched)
	}
}

// dice are numbers that follow one another without a rule that one sees.
type dice uint64

func (d *dice) below(n int) int {
	*d = *d*6364136223846793005 + 1442695040888963407
	return int(uint64(*d) >> 33 % uint64(n))
}

// one is a datum of one part, some symbol or constant.
func (d *dice) one(names []string) api.Datum {
	if d.below(4) > 0 {
		return sym(names[d.below(len(names))])
	}
	return data(`0 1 #t #f #\a "a" "" () #() -1`)[d.below(10)]
}

// datum is some right datum with such names, in at most depth rows.
func (d *dice) datum(depth int, names []string) api.Datum {
	if depth == 0 || d.below(3) == 0 {
		return d.one(names)
	}
	var items []api.Datum
	for range d.below(5) {
		items = append(items, d.datum(depth-1, names))
	}
	switch d.below(4) {
	case 0:
		return vec(items...)
	case 1:
		return dotted(items, d.one(names))
	}
	return list(items...)
}

// dotted is the right datum of these items and that end.
func dotted(items []api.Datum, end api.Datum) api.Datum {
	switch {
	case len(items) == 0 || end.Kind == api.DList && len(end.Items) == 0:
		return list(items...)
	case end.Kind == api.DList || end.Kind == api.DDot:
		end.Items = append(slices.Clone(items), end.Items...)
		return end
	}
	return dot(append(slices.Clone(items), end)...)
}

// P12.1, P12.2: scattered patterns, with other literals and ellipses.
func TestScatteredPatterns(t *testing.T) {
	table := world(t)
	d := dice(12)
	names := []string{"a", "b", "c", "d", "_", "...", "...", "...", "etc", "else", "else 1", "else 2", "x 6", "if", "_ 4"}
	may := 0
	for range 30000 {
		m := worldly([]string{dots, dots, dots, "etc", "a"}[d.below(5)])
		for range d.below(4) {
			m.literals = append(m.literals, []string{"else", "else 1", "else 2", "if", "_", "...", "x"}[d.below(7)])
		}
		p := d.datum(1+d.below(3), names)
		if !m.agreesPattern(t, p) {
			continue
		}
		may++
		for range 3 {
			m.agrees(t, table, p, d.datum(1+d.below(3), names))
		}
	}
	if may < 3000 {
		t.Errorf("only %d may be patterns", may)
	}
}

// patterns makes patterns whose variables are each another one.
type patterns struct {
	*dice
	made    int
	ones    []string // names that are no variables
	strange bool     // whether such names, and rows without variables, may be repeated
}

// pattern is one, in at most depth rows.
func (s *patterns) pattern(depth int) api.Datum {
	switch k := s.below(6); {
	case depth == 0 || k == 0:
		return s.single()
	case k == 1:
		return vec(s.row(depth)...)
	case k < 4:
		if items := s.row(depth); len(items) > 0 {
			return dotted(items, s.single())
		}
		return list()
	}
	return list(s.row(depth)...)
}

// single is a variable, or something that is none.
func (s *patterns) single() api.Datum {
	if s.below(4) == 0 && len(s.ones) > 0 {
		return s.one(s.ones)
	}
	s.made++
	return sym("v" + string([]byte{byte('a' + s.made%26)}) + strings.Repeat("!", s.made/26))
}

// row is what may stand in a pattern's row.
func (s *patterns) row(depth int) []api.Datum {
	var items []api.Datum
	ellipsis := s.below(6)
	for i := range s.below(5) {
		before := s.made
		item := s.pattern(depth - 1)
		items = append(items, item)
		if i == ellipsis && (s.strange || s.made > before) {
			items = append(items, sym(dots))
		}
	}
	return items
}

// filling is some datum that p is, when its variables stand for something; each repeated item comes some times.
func (d *dice) filling(p api.Datum, m *model) api.Datum {
	switch p.Kind {
	case api.DSym:
		if m.isLiteral(p.Text) {
			return p
		}
		return d.datum(2, []string{"x", "y", "else", "..."})
	case api.DList, api.DVec:
		return api.Datum{Kind: p.Kind, Items: d.fillings(p.Items, m)}
	case api.DDot:
		n := len(p.Items) - 1
		return dotted(d.fillings(p.Items[:n], m), d.filling(p.Items[n], m))
	}
	return p
}

// fillings are those of a row.
func (d *dice) fillings(row []api.Datum, m *model) []api.Datum {
	var all []api.Datum
	for i, p := range row {
		many := 1
		switch {
		case p.Text == m.ellipsis:
			many = 0
		case i+1 < len(row) && row[i+1].Text == m.ellipsis:
			many = d.below(4)
		}
		for range many {
			all = append(all, d.filling(p, m))
		}
	}
	return all
}

// spoilt is x, in which something is other than it was.
func (d *dice) spoilt(x api.Datum) api.Datum {
	x.Items = slices.Clone(x.Items)
	n := len(x.Items)
	switch k := d.below(8); {
	case n > 0 && k < 5:
		i := d.below(n)
		x.Items[i] = d.spoilt(x.Items[i])
	case n > 1 && k == 5:
		x.Items = slices.Delete(x.Items, 0, 1)
	case n > 0 && k == 6:
		x.Items = append(x.Items, x.Items[n-1])
	default:
		return d.datum(1, []string{"x", "else", "..."})
	}
	if x.Kind == api.DDot {
		n := len(x.Items) - 1
		return dotted(x.Items[:n], x.Items[n])
	}
	return x
}

// P12.2: scattered patterns, data that match them, and such that are spoilt.
func TestScatteredMatches(t *testing.T) {
	table := world(t)
	m := worldly(dots, "else")
	d := dice(3)
	matched, not := 0, 0
	for range 20000 {
		s := patterns{dice: &d, ones: []string{"_", "else"}, strange: true}
		p := s.pattern(1 + d.below(4))
		if !m.agreesPattern(t, p) {
			t.Fatalf("%s may be no pattern", shown(p))
		}
		x := d.filling(p, m)
		if m.agrees(t, table, p, x) {
			matched++
		}
		if !m.agrees(t, table, p, d.spoilt(x)) {
			not++
		}
	}
	if matched < 15000 || not < 5000 {
		t.Errorf("%d matched, %d did not", matched, not)
	}
}

// put is the pattern p, in which what its variables stand for is put in their places.
func put(p api.Datum, found map[string]api.Bound) api.Datum {
	switch n := len(p.Items) - 1; p.Kind {
	case api.DSym:
		return found[p.Text].D
	case api.DList, api.DVec:
		return api.Datum{Kind: p.Kind, Items: putRow(p.Items, found)}
	case api.DDot:
		return dotted(putRow(p.Items[:n], found), put(p.Items[n], found))
	}
	return p
}

// putRow is put of a row.
func putRow(row []api.Datum, found map[string]api.Bound) []api.Datum {
	var all []api.Datum
	for i, p := range row {
		switch {
		case p.Text == dots:
			continue
		case i+1 == len(row) || row[i+1].Text != dots:
			all = append(all, put(p, found))
			continue
		}
		vars := match.Vars(p, nil, dots)
		for k := range len(found[vars[0].From].Kids) {
			inner := map[string]api.Bound{}
			for _, v := range vars {
				inner[v.From] = found[v.From].Kids[k]
			}
			all = append(all, put(p, inner))
		}
	}
	return all
}

// P12.3: what the variables stand for, put in their places, is the datum.
func TestPutBack(t *testing.T) {
	table := world(t)
	d := dice(7)
	m := worldly(dots)
	matched := 0
	for range 20000 {
		s := patterns{dice: &d}
		p := s.pattern(1 + d.below(4))
		x := d.filling(p, m)
		bounds, ok := match.Match(table, 0, p, 0, x, nil, dots)
		if !ok {
			// A list that stands for a tail behind an ellipsis lends its items to what stands ahead.
			if _, may := m.bounds(p, x); may {
				t.Fatalf("Match of %s and %s: false", shown(p), shown(x))
			}
			continue
		}
		matched++
		found := map[string]api.Bound{}
		for _, b := range bounds {
			found[b.Name] = b
		}
		if back := put(p, found); !same(back, x) {
			t.Fatalf("%s filled with %s is %s; want %s", shown(p), allSaid(bounds), shown(back), shown(x))
		}
	}
	if matched < 15000 {
		t.Errorf("only %d matched", matched)
	}
}
