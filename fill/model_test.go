package fill_test

import (
	"maps"
	"slices"
	"strconv"
	"testing"

	"spindle/api"
	"spindle/env"
	"spindle/fill"
	"spindle/match"
)

// What follows is the chapter's filling a second time, over pairs: a list is a first thing and a rest, a vector is a list with a mark.

type node struct {
	what        int
	first, rest *node // of a pair; of a vector first is the list of what it has
	is          api.Datum
}

const (
	isPair = iota
	isNil
	isVector
	isAtom
)

// chain is a list of these with that end.
func chain(items []*node, end *node) *node {
	for _, item := range slices.Backward(items) {
		end = &node{what: isPair, first: item, rest: end}
	}
	return end
}

// nodes are the data of a row as pairs.
func nodes(items []api.Datum) []*node {
	var all []*node
	for _, item := range items {
		all = append(all, nodeOf(item))
	}
	return all
}

// nodeOf is a right datum as pairs.
func nodeOf(d api.Datum) *node {
	switch n := len(d.Items) - 1; d.Kind {
	case api.DList:
		return chain(nodes(d.Items), &node{what: isNil})
	case api.DVec:
		return &node{what: isVector, first: chain(nodes(d.Items), &node{what: isNil})}
	case api.DDot:
		return chain(nodes(d.Items[:n]), nodeOf(d.Items[n]))
	}
	return &node{what: isAtom, is: d}
}

// datum is the right one that the pairs are.
func (n *node) datum() api.Datum {
	switch n.what {
	case isAtom:
		return n.is
	case isVector:
		return vec(n.first.datum().Items...)
	}
	var items []api.Datum
	for ; n.what == isPair; n = n.rest {
		items = append(items, n.first.datum())
	}
	if n.what == isNil {
		return list(items...)
	}
	return dot(append(items, n.datum())...)
}

// isName tells whether n is a symbol.
func (n *node) isName() bool { return n.what == isAtom && n.is.Kind == api.DSym }

// scene is what a template is filled in; within an escape its ellipsis is none.
type scene struct {
	stand    map[string]api.Bound
	ellipsis string
	escaped  bool
	pairs    []api.Pair
	come     *counts
}

// counts are how many data came: in rows, and in tails.
type counts struct{ rows, tails int }

// isVariable tells whether n is one.
func (s scene) isVariable(n *node) bool {
	_, ok := s.stand[n.is.Text]
	return ok && n.isName()
}

// isEllipsis tells whether n is one that would count behind an item.
func (s scene) isEllipsis(n *node) bool {
	return n.isName() && n.is.Text == s.ellipsis && !s.escaped && !s.isVariable(n)
}

// escape is what n escapes, if it does.
func (s scene) escape(n *node) *node {
	if n.what == isPair && s.isEllipsis(n.first) && n.rest.what == isPair && n.rest.rest.what == isNil {
		return n.rest.first
	}
	return nil
}

// fill is what comes of n; none, if it can't be filled.
func (s scene) fill(n *node) *node {
	switch inner := s.escape(n); {
	case inner != nil:
		s.escaped = true
		return s.fill(inner)
	case n.what == isPair:
		return s.row(n)
	case n.what == isVector:
		if row := s.row(n.first); row != nil {
			return &node{what: isVector, first: row}
		}
		return nil
	case s.isVariable(n):
		if b := s.stand[n.is.Text]; b.Depth == 0 {
			return nodeOf(b.D)
		}
		return nil
	case n.isName():
		for _, pair := range s.pairs {
			if pair.From == n.is.Text {
				return &node{what: isAtom, is: sym(pair.To)}
			}
		}
	}
	return n
}

// row is what comes of what is left of a row, and its end.
func (s scene) row(n *node) *node {
	if n.what != isPair {
		tail := s.fill(n)
		if tail != nil && n.what != isNil {
			s.come.tails += parts(tail.datum())
		}
		return tail
	}
	item, ellipses := n.first, 0
	for n = n.rest; n.what == isPair && s.isEllipsis(n.first); n = n.rest {
		ellipses++
	}
	items, ok := s.times(item, ellipses)
	if !ok {
		return nil
	}
	if rest := s.row(n); rest != nil {
		return chain(items, rest)
	}
	return nil
}

// times are what comes of an item with so many ellipses; false, if it can't be filled.
func (s scene) times(item *node, ellipses int) ([]*node, bool) {
	if ellipses == 0 {
		d := s.fill(item)
		if d != nil {
			s.come.rows += parts(d.datum())
		}
		return []*node{d}, d != nil
	}
	many := -1
	for name := range s.drivers(item) {
		kids := len(s.stand[name].Kids)
		if many >= 0 && kids != many {
			return nil, false
		}
		many = kids
	}
	var all []*node
	for k := range many {
		inner := s
		inner.stand = maps.Clone(s.stand)
		for name := range s.drivers(item) {
			inner.stand[name] = s.stand[name].Kids[k]
		}
		more, ok := inner.times(item, ellipses-1)
		if !ok {
			return nil, false
		}
		all = append(all, more...)
	}
	return all, many >= 0
}

// drivers are the variables in n that stand for several things.
func (s scene) drivers(n *node) map[string]int {
	if n == nil || n.what == isNil {
		return nil
	}
	all := map[string]int{}
	if s.isVariable(n) && s.stand[n.is.Text].Depth > 0 {
		all[n.is.Text]++
	}
	maps.Copy(all, s.drivers(n.first))
	maps.Copy(all, s.drivers(n.rest))
	return all
}

// names puts to all what n brings in; clear is false, if an ellipsis stands alone, as a whole or a tail.
func (s scene) names(n *node, all *[]string) (clear bool) {
	switch inner := s.escape(n); {
	case inner != nil:
		s.escaped = true
		return s.names(inner, all)
	case n.what == isPair:
		return s.namesOfRow(n, all)
	case n.what == isVector:
		return s.namesOfRow(n.first, all)
	case n.isName() && !s.isVariable(n) && !slices.Contains(*all, n.is.Text):
		*all = append(*all, n.is.Text)
	}
	return !s.isEllipsis(n)
}

// namesOfRow is names of a row, and its end.
func (s scene) namesOfRow(n *node, all *[]string) (clear bool) {
	clear = true
	for first := true; n.what == isPair; n, first = n.rest, false {
		switch {
		case s.isEllipsis(n.first) && first:
			s.names(n.first, all)
		case !s.isEllipsis(n.first):
			clear = s.names(n.first, all) && clear
		}
	}
	return s.names(n, all) && clear
}

// sceneOf is one with these bounds, of which the first one of each name counts.
func sceneOf(bounds []api.Bound, ellipsis string, pairs []api.Pair) scene {
	s := scene{stand: map[string]api.Bound{}, ellipsis: ellipsis, pairs: pairs, come: &counts{}}
	for _, b := range slices.Backward(bounds) {
		s.stand[b.Name] = b
	}
	return s
}

// agrees holds Fill and Names of p against the model; it tells whether p could be filled.
func agrees(t *testing.T, p api.Datum, bounds []api.Bound, ellipsis string, pairs []api.Pair) bool {
	t.Helper()
	s := sceneOf(bounds, ellipsis, pairs)
	var want []string
	clear := s.names(nodeOf(p), &want)
	got := fill.Names(p, bounds, ellipsis)
	if !clear {
		isLone := func(name string) bool { return name == ellipsis }
		want, got = slices.DeleteFunc(want, isLone), slices.DeleteFunc(got, isLone)
	}
	if !slices.Equal(got, want) {
		t.Fatalf("Names(%s, .., %s) = %q; want %q", shown(p), ellipsis, got, want)
	}
	return s.agreesFilled(t, p, bounds)
}

// agreesFilled holds Fill of p, which fits, against the model in this scene; it tells whether p could be filled.
func (s scene) agreesFilled(t *testing.T, p api.Datum, bounds []api.Bound) bool {
	t.Helper()
	d := s.fill(nodeOf(p))
	got, e := fill.Fill(p, bounds, s.ellipsis, s.pairs)
	if d != nil {
		s.come.rows += parts(d.datum())
	}
	switch most := s.come.rows + s.come.tails; {
	case d == nil && most <= 4000:
		fails(t, p, bounds, s.ellipsis, api.ErrForm)
		return false
	case d != nil && s.come.rows > 4000:
		fails(t, p, bounds, s.ellipsis, api.ErrLong)
		return false
	case most > 4000:
		// Which error is met first, and whether tails count, isn't asked here.
		return false
	}
	if e != nil || !same(got, d.datum()) {
		t.Fatalf("Fill(%s, %+v, %s, %v) = %s, %v; want %s", shown(p), bounds, s.ellipsis, s.pairs, shown(got), e, shown(d.datum()))
	}
	return true
}

// sized are all right data of just so many parts, those of one part being these.
func sized(parts int, ones []api.Datum) []api.Datum {
	if parts == 1 {
		return append([]api.Datum{list(), vec()}, ones...)
	}
	var all []api.Datum
	for _, items := range sizedRows(parts-1, ones) {
		all = append(all, list(items...), vec(items...))
		if last := items[len(items)-1].Kind; len(items) > 1 && last != api.DList && last != api.DDot {
			all = append(all, dot(items...))
		}
	}
	return all
}

// sizedRows are all rows of data of so many parts in all.
func sizedRows(parts int, ones []api.Datum) [][]api.Datum {
	if parts == 0 {
		return [][]api.Datum{nil}
	}
	var all [][]api.Datum
	for first := 1; first <= parts; first++ {
		rests := sizedRows(parts-first, ones)
		for _, d := range sized(first, ones) {
			for _, rest := range rests {
				all = append(all, append([]api.Datum{d}, rest...))
			}
		}
	}
	return all
}

// P13.1, P13.2: all small templates.
func TestSmallTemplates(t *testing.T) {
	bounds := stands("a 1 b* ((2) 3) c** ((4 ()) ((5 . 6))) d** (() (7))")
	pairs := calls("x x~1 ... ...~2 x z")
	filled := 0
	for _, c := range []struct {
		parts int
		ones  string
	}{{4, "a b c d x ..."}, {5, "b x ..."}, {6, "c ..."}} {
		for n := 1; n <= c.parts; n++ {
			for _, p := range sized(n, data(c.ones)) {
				if agrees(t, p, bounds, dots, pairs) {
					filled++
				}
			}
		}
	}
	if filled < 10000 {
		t.Errorf("only %d could be filled", filled)
	}
}

// dice are numbers that follow one another without a rule that one sees.
type dice uint64

func (d *dice) below(n int) int {
	*d = *d*6364136223846793005 + 1442695040888963407
	return int(uint64(*d) >> 33 % uint64(n))
}

// one is a datum of one part, some symbol or constant.
func (d *dice) one(names []string) api.Datum {
	if d.below(4) > 0 {
		return sym(names[d.below(len(names))])
	}
	return []api.Datum{num(0), num(1), num(-1), {Kind: api.DBool}, {Kind: api.DBool, N: 1}, {Kind: api.DChar, N: 97}, {Kind: api.DStr, Text: "a"}, {Kind: api.DStr}, list(), vec()}[d.below(10)]
}

// datum is some right datum with such names, in at most depth rows.
func (d *dice) datum(depth int, names []string) api.Datum {
	if depth == 0 || d.below(3) == 0 {
		return d.one(names)
	}
	var items []api.Datum
	for range d.below(5) {
		items = append(items, d.datum(depth-1, names))
	}
	return d.row(items, d.one(names))
}

// row is a list or a vector of these, or a list with that end.
func (d *dice) row(items []api.Datum, end api.Datum) api.Datum {
	switch d.below(4) {
	case 0:
		return vec(items...)
	case 1:
		return dotted(items, end)
	}
	return list(items...)
}

// dotted is the right datum of these items and that end.
func dotted(items []api.Datum, end api.Datum) api.Datum {
	switch {
	case len(items) == 0:
		return end
	case end.Kind == api.DList || end.Kind == api.DDot:
		end.Items = slices.Concat(items, end.Items)
		return end
	}
	return dot(append(slices.Clone(items), end)...)
}

// bounds are for a, b, c and so on what stands for one thing, for several, and for several times several; the rooms say how many.
func (d *dice) bounds(rooms []int, spoilt bool) []api.Bound {
	var bounds []api.Bound
	for i := range 8 {
		depth := i / 2
		bounds = append(bounds, d.bound(string([]byte{byte('a' + i)}), depth, rooms, 0, spoilt))
	}
	return bounds
}

// bound is one of those, for the things within the one that is numbered at.
func (d *dice) bound(name string, depth int, rooms []int, at int, spoilt bool) api.Bound {
	if depth == 0 {
		return api.Bound{Name: name, D: d.datum(2, []string{"x", "a", "...", "q"})}
	}
	b := api.Bound{Name: name, Depth: depth}
	n := rooms[at%len(rooms)]
	if spoilt && d.below(8) == 0 {
		n = d.below(4)
	}
	for k := range n {
		b.Kids = append(b.Kids, d.bound(name, depth-1, rooms, at*3+k+1, spoilt))
	}
	return b
}

// P13.1, P13.2: scattered templates.
func TestScatteredTemplates(t *testing.T) {
	d := dice(13)
	names := []string{"a", "c", "d", "e", "f", "g", "x", "x 1", "y", "...", "...", "...", "etc"}
	filled := 0
	for range 30000 {
		bounds := d.bounds([]int{d.below(4), d.below(3), d.below(3)}, true)
		if d.below(8) == 0 {
			bounds = append(bounds, bounds[d.below(8)], api.Bound{Name: "...", D: num(9)})
		}
		pairs := calls("x x~1 y y~2 ... ...~3 a b")[d.below(4):]
		if agrees(t, d.datum(1+d.below(4), names), bounds, []string{dots, dots, dots, "etc", "x"}[d.below(5)], pairs) {
			filled++
		}
	}
	if filled < 10000 {
		t.Errorf("only %d could be filled", filled)
	}
}

// template is one that can be filled, in at most depth rows, where as many ellipses as level stand behind it.
func (d *dice) template(depth, level int) api.Datum {
	if depth == 0 || d.below(4) == 0 {
		return d.one([]string{"x", "y", "x 1", string([]byte{byte('a' + d.below(2+2*level))})})
	}
	var items []api.Datum
	for range d.below(4) {
		more := d.below(4-level) * d.below(2)
		item := d.template(depth-1, level+more)
		if more > 0 {
			item = d.row([]api.Datum{item, sym(string([]byte{byte('a' + 2*(level+more))}))}, d.one([]string{"x", "y"}))
		}
		items = append(items, item)
		items = append(items, times(more, sym(dots))...)
	}
	row := d.row(items, d.template(0, level))
	if d.below(8) == 0 {
		return list(sym(dots), d.escaped(depth-1, level))
	}
	return row
}

// escaped is what may stand in an escape there.
func (d *dice) escaped(depth, level int) api.Datum {
	return d.datum(depth, []string{"x", dots, string([]byte{byte('a' + d.below(2+2*level))})})
}

// P13.1, P13.2: scattered templates with many ellipses.
func TestScatteredEllipses(t *testing.T) {
	d := dice(31)
	filled, not := 0, 0
	for i := range 20000 {
		bounds := d.bounds([]int{d.below(3) + 1, d.below(3), d.below(3), d.below(4)}, i%4 == 0)
		if agrees(t, d.template(1+d.below(4), 0), bounds, dots, calls("x x~1 y y~2 ... ...~3")[:d.below(4)]) {
			filled++
		} else {
			not++
		}
	}
	if filled < 10000 || not < 100 {
		t.Errorf("%d could be filled, %d could not", filled, not)
	}
}

// patterns makes patterns whose variables are each another one, and in each repeated item of which one stands.
type patterns struct {
	*dice
	made int
}

// pattern is one, in at most depth rows.
func (s *patterns) pattern(depth int) api.Datum {
	if depth == 0 || s.below(6) == 0 {
		return s.single()
	}
	var items []api.Datum
	ellipsis := s.below(6)
	for i := range s.below(5) {
		item := s.pattern(depth - 1)
		items = append(items, item)
		if i == ellipsis && len(match.Vars(item, nil, dots)) > 0 {
			items = append(items, sym(dots))
		}
	}
	return s.row(items, s.single())
}

// single is a variable, or something that is no name.
func (s *patterns) single() api.Datum {
	if s.below(4) == 0 {
		return []api.Datum{num(0), {Kind: api.DBool, N: 1}, {Kind: api.DStr, Text: "a"}, list(), vec()}[s.below(5)]
	}
	s.made++
	return sym("v" + strconv.Itoa(s.made))
}

// matching is some datum that p is, when its variables stand for something; each repeated item comes some times.
func (d *dice) matching(p api.Datum) api.Datum {
	switch n := len(p.Items) - 1; p.Kind {
	case api.DSym:
		return d.datum(2, []string{"x", "y", "v1", "..."})
	case api.DList, api.DVec:
		return api.Datum{Kind: p.Kind, Items: d.matchingRow(p.Items)}
	case api.DDot:
		return dotted(d.matchingRow(p.Items[:n]), d.matching(p.Items[n]))
	}
	return p
}

// matchingRow is that of a row.
func (d *dice) matchingRow(row []api.Datum) []api.Datum {
	var all []api.Datum
	for i, p := range row {
		many := 1
		switch {
		case p.Text == dots:
			many = 0
		case i+1 < len(row) && row[i+1].Text == dots:
			many = d.below(4)
		}
		for range many {
			all = append(all, d.matching(p))
		}
	}
	return all
}

// P13.3: a pattern, filled with what matched it, is the datum that matched.
func TestPatternsFilled(t *testing.T) {
	table := env.New()
	d := dice(5)
	matched, many := 0, 0
	for range 20000 {
		s := patterns{dice: &d}
		p := s.pattern(1 + d.below(4))
		x := d.matching(p)
		bounds, ok := match.Match(table, 0, p, 0, x, nil, dots)
		if !ok {
			// A list that stands for a tail behind an ellipsis lends its items to what stands ahead.
			continue
		}
		matched++
		if len(bounds) > 3 {
			many++
		}
		if got, e := fill.Fill(p, bounds, dots, calls("x no v1 no ... no")); e != nil || !same(got, x) {
			t.Fatalf("Fill(%s, %+v) = %s, %v; want %s", shown(p), bounds, shown(got), e, shown(x))
		}
		if names := fill.Names(p, bounds, dots); len(names) > 0 {
			t.Fatalf("Names(%s, %+v) = %q", shown(p), bounds, names)
		}
	}
	if matched < 15000 || many < 2000 {
		t.Errorf("only %d matched, %d with many variables", matched, many)
	}
}
