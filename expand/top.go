package expand

import "spindle/api"

// top is the term of a form at the top.
func (x *expansion) top(f form) (api.Term, error) {
	f, what, err := x.unfold(f)
	if err != nil {
		return api.Term{}, err
	}
	t, err := x.atTop(f, what)
	return t, f.fails(err)
}

// atTop is that of one that uses no macro.
func (x *expansion) atTop(f form, what int) (api.Term, error) {
	switch items := f.d.Items; {
	case what == aDefine:
		return x.defineGlobal(f)
	case what == aBegin && len(items) > 1:
		return x.made(api.Term{Kind: api.CBegin}, each(x.top, x.allWithin(f, items[1:]))...)
	case what == aDefineSyntax:
		if err := x.defineKeyword(f); err != nil {
			return api.Term{}, err
		}
		fallthrough
	case what == aBegin:
		return x.made(api.Term{Kind: api.CQuote})
	}
	return x.expression(f)
}

// defineGlobal is the term of a definition at the top, where its name means nothing from now on.
func (x *expansion) defineGlobal(f form) (api.Term, error) {
	def, err := definitionOf(f)
	if err != nil {
		return api.Term{}, err
	}
	symbol := x.table.Strip(def.name)
	if err := x.table.Top(symbol, api.Meaning{}); err != nil {
		return api.Term{}, err
	}
	delete(x.macros, symbol)
	return x.made(api.Term{Kind: api.CDefine, Name: symbol}, func() (api.Term, error) { return x.value(def, top) })
}

// defineKeyword makes a name's symbol mean a macro at the top, as a use of define-syntax says.
func (x *expansion) defineKeyword(f form) error {
	bound, err := bindingOf(f.d.Items[1:])
	if err != nil {
		return err
	}
	m, err := x.spec(bound.spec, top)
	if err != nil {
		return err
	}
	symbol := x.table.Strip(bound.name)
	x.macros[symbol] = m
	return x.table.Top(symbol, api.Meaning{Kind: api.MMacro})
}
