package expand

import (
	"slices"

	"spindle/api"
	"spindle/datum"
)

// pending is a term that is made when its turn comes.
type pending func() (api.Term, error)

// made is a term that is begun, and then gets its kids, in order.
func (x *expansion) made(t api.Term, kids ...pending) (api.Term, error) {
	x.terms++
	if x.terms > api.MaxTerms {
		return api.Term{}, api.ErrLong
	}
	for _, kid := range kids {
		made, err := kid()
		if err != nil {
			return api.Term{}, err
		}
		t.Kids = append(t.Kids, made)
	}
	return t, nil
}

// later is made, but not yet.
func (x *expansion) later(t api.Term, kids ...pending) pending {
	return func() (api.Term, error) { return x.made(t, kids...) }
}

// each are the forms' terms, all expanded in one way.
func each(expand func(form) (api.Term, error), forms []form) []pending {
	var terms []pending
	for _, f := range forms {
		terms = append(terms, func() (api.Term, error) { return expand(f) })
	}
	return terms
}

// expression is the term of a form that is one.
func (x *expansion) expression(f form) (api.Term, error) {
	for {
		var what int
		var err error
		if f, what, err = x.unfold(f); err != nil {
			return api.Term{}, err
		}
		if what != aLetSyntax && what != aLetrecSyntax {
			t, err := x.term(f, what)
			return t, f.fails(err)
		}
		b, err := x.letSyntax(f, what)
		if err != nil {
			return api.Term{}, f.fails(err)
		}
		if !b.isExpression() {
			t, err := x.body(b)
			return t, f.fails(err)
		}
		// All that calls this function within itself begins a term; where none is begun it goes round, so that few calls are ever open.
		f = b.expressions[0]
	}
}

// term is that of an expression that uses no macro, and binds none.
func (x *expansion) term(f form, what int) (api.Term, error) {
	items := f.d.Items
	if !takes(what, len(items)) {
		return api.Term{}, api.ErrForm
	}
	switch what {
	case aName:
		return x.variable(f.at, f.d, api.CLocal, api.CGlobal)
	case aSet:
		return x.variable(f.at, items[1], api.CSet, api.CAssign, x.within(f, items[2]))
	case aLambda:
		return x.lambda(f, items[1], items[2:])
	case aQuote:
		f.d = items[1]
		fallthrough
	case aConstant:
		return x.made(api.Term{Kind: api.CQuote, Data: datum.Rename(f.d, x.table.Strip)})
	case anIf, aBegin:
		items = items[1:]
		fallthrough
	case aCall:
		return x.made(api.Term{Kind: kindOf(what)}, each(x.expression, x.allWithin(f, items))...)
	}
	return api.Term{}, api.ErrForm
}

// takes tells whether a form may have so many items, its head among them.
func takes(what, items int) bool {
	switch what {
	case aQuote:
		return items == 2
	case aSet:
		return items == 3
	case anIf:
		return items == 3 || items == 4
	case aLambda, aBegin, aLetSyntax, aLetrecSyntax:
		return items >= 2
	}
	return true
}

// kindOf is the kind of a term that has nothing but kids.
func kindOf(what int) int {
	switch what {
	case anIf:
		return api.CIf
	case aBegin:
		return api.CBegin
	}
	return api.CCall
}

// variable is a term of the one kind where a name is a local's, of the other where it is a global's.
func (x *expansion) variable(at int, name api.Datum, local, global int, kids ...form) (api.Term, error) {
	if name.Kind != api.DSym {
		return api.Term{}, api.ErrForm
	}
	means, err := x.table.Find(at, name.Text)
	if err != nil {
		return api.Term{}, err
	}
	switch means.Kind {
	case api.MLocal:
		return x.made(api.Term{Kind: local, N: means.N}, each(x.expression, kids)...)
	case api.MNone:
		return x.made(api.Term{Kind: global, Name: x.table.Strip(name.Text)}, each(x.expression, kids)...)
	}
	return api.Term{}, api.ErrForm
}

// lambda is the term of a procedure, where f stands.
func (x *expansion) lambda(f form, params api.Datum, forms []api.Datum) (api.Term, error) {
	names, rest, err := parameters(params)
	if err != nil {
		return api.Term{}, err
	}
	t := api.Term{Kind: api.CLambda, N: rest}
	for _, name := range names {
		var local int
		if f.at, local, err = x.bind(f.at, name); err != nil {
			return api.Term{}, err
		}
		t.Params = append(t.Params, local)
	}
	return x.made(t, func() (api.Term, error) {
		b, err := x.scan(f, forms)
		if err != nil {
			return api.Term{}, err
		}
		return x.body(b)
	})
}

// parameters are the names of a procedure's; rest is 1, if the last one takes the rest.
func parameters(d api.Datum) (names []string, rest int, err error) {
	items, rest := []api.Datum{d}, 1
	switch d.Kind {
	case api.DList:
		rest = 0
		fallthrough
	case api.DDot:
		items = d.Items
	}
	for _, item := range items {
		if item.Kind != api.DSym || slices.Contains(names, item.Text) {
			return nil, 0, api.ErrForm
		}
		names = append(names, item.Text)
	}
	if len(names) > api.MaxParams {
		return nil, 0, api.About{Name: coreForms[aLambda-1], Err: api.ErrLong}
	}
	return names, rest, nil
}
