package expand

import (
	"spindle/api"
	"spindle/datum"
	"spindle/fill"
	"spindle/match"
)

// macro is what a name may mean.
type macro struct {
	at       int
	dots     string
	literals []string
	rules    []rule
}

// rule is a pattern, without its head, and a template.
type rule struct{ pattern, template api.Datum }

// macro is the one that a form uses.
func (x *expansion) macro(f form) macro {
	name, _ := head(f.d)
	if means, _ := x.table.Find(f.at, name); means.N > 0 {
		return x.inner[means.N-1]
	}
	return x.macros[x.table.Strip(name)]
}

// addMacro keeps the macro that d specifies at a place, for a name that nextMacro was the meaning of.
func (x *expansion) addMacro(d api.Datum, at int) error {
	m, err := x.spec(d, at)
	x.inner = append(x.inner, m)
	return err
}

// nextMacro is the meaning of a name whose macro is added when n others were.
func (x *expansion) nextMacro(n int) api.Meaning {
	return api.Meaning{Kind: api.MMacro, N: len(x.inner) + n + 1}
}

// use is what comes of a form that uses a macro.
func (x *expansion) use(f form) (api.Datum, error) {
	x.uses++
	if x.uses > api.MaxExpand {
		return api.Datum{}, api.ErrSteps
	}
	m := x.macro(f)
	given := datum.Behind(f.d, 1)
	for _, r := range m.rules {
		if bounds, ok := match.Match(x.table, m.at, r.pattern, f.at, given, m.literals, m.dots); ok {
			return x.fill(m, r.template, bounds)
		}
	}
	return api.Datum{}, api.ErrForm
}

// fill is what comes of a macro's template, in which the names that it brings in are new ones.
func (x *expansion) fill(m macro, template api.Datum, bounds []api.Bound) (api.Datum, error) {
	var pairs []api.Pair
	for _, name := range fill.Names(template, bounds, m.dots) {
		alias, err := x.table.Alias(name, m.at)
		if err != nil {
			return api.Datum{}, err
		}
		pairs = append(pairs, api.Pair{From: name, To: alias})
	}
	return fill.Fill(template, bounds, m.dots, pairs)
}
