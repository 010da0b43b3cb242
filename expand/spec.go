package expand

import (
	"spindle/api"
	"spindle/datum"
	"spindle/match"
)

const (
	dots       = "..."
	underscore = "_"
)

// binding is a name, and what specifies the macro that it means.
type binding struct {
	name string
	spec api.Datum
}

// bindingOf is that of the two items of which it is made.
func bindingOf(items []api.Datum) (binding, error) {
	if len(items) != 2 || items[0].Kind != api.DSym {
		return binding{}, api.ErrForm
	}
	return binding{name: items[0].Text, spec: items[1]}, nil
}

// bindingsOf are those of a list of them.
func bindingsOf(d api.Datum) ([]binding, error) {
	if d.Kind != api.DList {
		return nil, api.ErrForm
	}
	var all []binding
	for _, item := range d.Items {
		if item.Kind != api.DList {
			return nil, api.ErrForm
		}
		b, err := bindingOf(item.Items)
		if err != nil {
			return nil, err
		}
		all = append(all, b)
	}
	return all, nil
}

// spec is the macro that d specifies, at the place that is the macro's.
func (x *expansion) spec(d api.Datum, at int) (macro, error) {
	if x.what(form{d: d, at: at}) != aSyntaxRules {
		return macro{}, api.ErrForm
	}
	m := macro{at: at, dots: dots}
	rest := datum.Rename(d, x.bare).Items[1:]
	if len(rest) > 0 && rest[0].Kind == api.DSym {
		m.dots, rest = rest[0].Text, rest[1:]
	}
	if len(rest) == 0 || rest[0].Kind != api.DList {
		return macro{}, api.ErrForm
	}
	for _, literal := range rest[0].Items {
		if literal.Kind != api.DSym {
			return macro{}, api.ErrForm
		}
		m.literals = append(m.literals, literal.Text)
	}
	for _, d := range rest[1:] {
		r, err := m.rule(d)
		if err != nil {
			return macro{}, err
		}
		m.rules = append(m.rules, r)
	}
	return m, nil
}

// bare is what a name counts as in a macro's rules: one that comes from the ellipsis, or from the underscore, is that, also where another macro brought it in.
func (x *expansion) bare(name string) string {
	switch symbol := x.table.Strip(name); symbol {
	case dots, underscore:
		return symbol
	}
	return name
}

// rule is the one of m that d is.
func (m macro) rule(d api.Datum) (rule, error) {
	if d.Kind != api.DList || len(d.Items) != 2 || !hasHead(d.Items[0]) {
		return rule{}, api.ErrForm
	}
	r := rule{pattern: datum.Behind(d.Items[0], 1), template: d.Items[1]}
	return r, match.Check(r.pattern, m.literals, m.dots)
}

// hasHead tells whether something stands ahead of all else in d, with a full stop behind it or without.
func hasHead(d api.Datum) bool {
	return (d.Kind == api.DList || d.Kind == api.DDot) && len(d.Items) > 0
}
