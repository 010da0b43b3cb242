package match

import (
	"slices"

	"spindle/api"
	"spindle/datum"
)

// variable is one of a pattern's: how many ellipses stand behind it, and how it is found, in a datum that matches, what it stands for.
type variable struct {
	name  string
	depth int
	find  func(d api.Datum) api.Bound
}

// pattern are the variables of p, in the order in which they stand; false, if it may be no pattern.
func (n names) pattern(p api.Datum) ([]variable, bool) {
	if !datum.Fits(p) {
		return nil, false
	}
	vars, ok := n.variables(p)
	if !ok || !areApart(vars) {
		return nil, false
	}
	return vars, true
}

// areApart tells whether no two variables have one name.
func areApart(vars []variable) bool {
	met := map[string]int{}
	for _, v := range vars {
		met[v.name]++
	}
	return len(met) == len(vars)
}

// variables are those of p; false, if an ellipsis stands where it may not.
func (n names) variables(p api.Datum) ([]variable, bool) {
	switch n.of(p) {
	case anEllipsis:
		return nil, false
	case aVariable:
		return []variable{whole(p.Text)}, true
	case aRow:
		return n.inRow(p)
	}
	return nil, true
}

// inRow are the variables of what stands in p; false likewise.
func (n names) inRow(p api.Datum) ([]variable, bool) {
	r := n.row(p)
	var vars []variable
	for part, items := range r {
		look := func(d api.Datum) []api.Datum {
			laid, _ := r.lay(p.Kind, d)
			return laid[part]
		}
		for i, item := range items {
			inner, ok := n.variables(item)
			if !ok {
				return nil, false
			}
			for _, v := range inner {
				if part == middle {
					vars = append(vars, v.inAll(look))
				} else {
					vars = append(vars, v.inOne(look, i))
				}
			}
		}
	}
	return vars, true
}

// whole is a variable that is the pattern itself.
func whole(name string) variable {
	return variable{name: name, find: func(d api.Datum) api.Bound {
		return api.Bound{Name: name, D: datum.Copy(d)}
	}}
}

// inOne is v in a pattern around, where look sees a part of a datum's row, of which the item i matches what v stands in.
func (v variable) inOne(look func(d api.Datum) []api.Datum, i int) variable {
	return variable{name: v.name, depth: v.depth, find: func(d api.Datum) api.Bound {
		return v.find(look(d)[i])
	}}
}

// inAll is v likewise, where an ellipsis takes all that look sees.
func (v variable) inAll(look func(d api.Datum) []api.Datum) variable {
	depth := v.depth + 1
	return variable{name: v.name, depth: depth, find: func(d api.Datum) api.Bound {
		taken := look(d)
		b := api.Bound{Name: v.name, Depth: depth, Kids: slices.Grow([]api.Bound(nil), len(taken))}
		for _, item := range taken {
			b.Kids = append(b.Kids, v.find(item))
		}
		return b
	}}
}
