package fill

import (
	"slices"

	"spindle/api"
	"spindle/datum"
)

// What a datum is in a template.
const (
	aConstant = iota
	aName
	aVariable
	aRow
)

// piece is a datum of a template.
type piece struct {
	what  int
	d     api.Datum
	items []item   // of a row
	tail  []piece  // of a row that has one
	vars  []string // the variables in it, rising
}

// item is one of a row.
type item struct {
	piece
	ellipses int // how many stand behind it
}

// template knows what names are in one, and which of them it brings in.
type template struct {
	stands map[string]api.Bound // by each variable what it stands for
	dots   string
	names  []string
	met    map[string]int // how often a name was brought in
}

// templateOf is one with these variables and this ellipsis.
func templateOf(bounds []api.Bound, dots string) *template {
	t := &template{stands: map[string]api.Bound{}, dots: dots, met: map[string]int{}}
	for _, b := range bounds {
		if !t.isVariable(b.Name) {
			t.stands[b.Name] = b
		}
	}
	return t
}

// isVariable tells whether a name is one.
func (t *template) isVariable(name string) bool {
	_, ok := t.stands[name]
	return ok
}

// isEllipsis tells whether d counts as one where it stands; it never does where it is escaped.
func (t *template) isEllipsis(d api.Datum, escaped bool) bool {
	return !escaped && d.Kind == api.DSym && d.Text == t.dots && !t.isVariable(t.dots)
}

// look is d, looked through.
func (t *template) look(d api.Datum, escaped bool) piece {
	switch d.Kind {
	case api.DSym:
		return t.name(d)
	case api.DList:
		if len(d.Items) == 2 && t.isEllipsis(d.Items[0], escaped) {
			return t.look(d.Items[1], true)
		}
		fallthrough
	case api.DDot, api.DVec:
		return t.row(d, escaped)
	}
	return piece{what: aConstant, d: d}
}

// name is a name's piece.
func (t *template) name(d api.Datum) piece {
	if t.isVariable(d.Text) {
		return piece{what: aVariable, d: d, vars: []string{d.Text}}
	}
	t.met[d.Text]++
	if t.met[d.Text] == 1 {
		t.names = append(t.names, d.Text)
	}
	return piece{what: aName, d: d}
}

// row is a row's piece.
func (t *template) row(d api.Datum, escaped bool) piece {
	items, tail := datum.Row(d)
	p := piece{what: aRow, d: d}
	for _, one := range items {
		if n := len(p.items); n > 0 && t.isEllipsis(one, escaped) {
			p.items[n-1].ellipses++
			continue
		}
		p.items = append(p.items, item{piece: t.look(one, escaped)})
		p.vars = append(p.vars, p.items[len(p.items)-1].vars...)
	}
	for _, one := range tail {
		p.tail = append(p.tail, t.look(one, escaped))
		p.vars = append(p.vars, p.tail[0].vars...)
	}
	slices.Sort(p.vars)
	p.vars = slices.Compact(p.vars)
	return p
}
