package expand

import (
	"slices"

	"spindle/api"
	"spindle/datum"
)

const noValue = 1 // the N of a datum of no kind that is no value yet

// body is what stands in one: what it defines, and the expressions behind that.
type body struct {
	at          int            // the innermost place
	met         map[string]int // how often a name was defined
	locals      []definition
	expressions []form
}

// isExpression tells whether a body is just one.
func (b body) isExpression() bool { return len(b.locals) == 0 && len(b.expressions) == 1 }

// definition is what a use of define says: a name, and what it is.
type definition struct {
	f           form // all of it
	name        string
	local       int // which one the name is, unless it stands at the top
	isProcedure bool
	params      api.Datum   // of a procedure
	forms       []api.Datum // its body; or an expression
}

// definitionOf is that of a form that uses define.
func definitionOf(f form) (definition, error) {
	items := f.d.Items
	if len(items) < 2 {
		return definition{}, api.ErrForm
	}
	def, name := definition{f: f, forms: items[2:]}, items[1]
	if hasHead(name) {
		def.isProcedure, def.params, name = true, datum.Behind(name, 1), name.Items[0]
	}
	if name.Kind != api.DSym || !def.isProcedure && len(def.forms) != 1 {
		return definition{}, api.ErrForm
	}
	def.name = name.Text
	return def, nil
}

// value is the term of what a definition's name is, at a place.
func (x *expansion) value(def definition, at int) (api.Term, error) {
	f := def.f
	f.at = at
	if !def.isProcedure {
		return x.expression(x.within(f, def.forms[0]))
	}
	t, err := x.lambda(f, def.params, def.forms)
	return t, f.fails(err)
}

// scan is what stands in the body of f, at f's place.
func (x *expansion) scan(f form, data []api.Datum) (body, error) {
	b := body{at: f.at, met: map[string]int{}}
	waiting := x.pile(nil, f, data)
	for n := len(waiting) - 1; n >= 0; n = len(waiting) - 1 {
		next := waiting[n]
		next.at = b.at
		next, what, err := x.unfold(next)
		if err != nil {
			return body{}, err
		}
		waiting = waiting[:n]
		switch what {
		case aBegin:
			waiting = x.pile(waiting, next, next.d.Items[1:])
		case aDefine:
			err = x.define(&b, next)
		case aDefineSyntax:
			err = x.defineMacro(&b, next)
		default:
			b.express(append(waiting, next))
			return b, nil
		}
		if err != nil {
			return body{}, next.fails(err)
		}
	}
	return body{}, api.ErrForm
}

// pile puts the forms of data, which stand in f, onto others that wait: the last one comes first.
func (x *expansion) pile(waiting []form, f form, data []api.Datum) []form {
	for _, d := range slices.Backward(data) {
		waiting = append(waiting, x.within(f, d))
	}
	return waiting
}

// express says that all that wait are expressions.
func (b *body) express(waiting []form) {
	for _, f := range slices.Backward(waiting) {
		f.at = b.at
		b.expressions = append(b.expressions, f)
	}
}

// meet notes a name that is defined; none may be twice.
func (b *body) meet(name string) error {
	b.met[name]++
	if b.met[name] > 1 {
		return api.ErrForm
	}
	return nil
}

// define makes a name a local within a body, as a use of define says.
func (x *expansion) define(b *body, f form) error {
	def, err := definitionOf(f)
	if err == nil {
		err = b.meet(def.name)
	}
	if err == nil {
		b.at, def.local, err = x.bind(b.at, def.name)
	}
	b.locals = append(b.locals, def)
	return err
}

// defineMacro makes a name a macro within a body, as a use of define-syntax says.
func (x *expansion) defineMacro(b *body, f form) error {
	bound, err := bindingOf(f.d.Items[1:])
	if err == nil {
		err = b.meet(bound.name)
	}
	if err == nil {
		b.at, err = x.table.Extend(b.at, bound.name, x.nextMacro(0))
	}
	if err != nil {
		return err
	}
	return x.addMacro(bound.spec, b.at)
}

// letSyntax is what stands in the body of a use of let-syntax, or letrec-syntax, with the macros that it binds.
func (x *expansion) letSyntax(f form, what int) (body, error) {
	items := f.d.Items
	if !takes(what, len(items)) {
		return body{}, api.ErrForm
	}
	bindings, err := bindingsOf(items[1])
	if err != nil {
		return body{}, err
	}
	outer := f.at
	for i, bound := range bindings {
		if f.at, err = x.table.Extend(f.at, bound.name, x.nextMacro(i)); err != nil {
			return body{}, err
		}
	}
	if what == aLetrecSyntax {
		outer = f.at
	}
	for _, bound := range bindings {
		if err := x.addMacro(bound.spec, outer); err != nil {
			return body{}, err
		}
	}
	return x.scan(f, items[2:])
}

// body is the term of one.
func (x *expansion) body(b body) (api.Term, error) {
	switch {
	case len(b.locals) > api.MaxParams:
		return api.Term{}, api.ErrLong
	case len(b.locals) > 0:
		return x.withLocals(b)
	case b.isExpression():
		return x.expression(b.expressions[0])
	}
	return x.made(api.Term{Kind: api.CBegin}, each(x.expression, b.expressions)...)
}

// withLocals is the term of a body that defines some: a procedure that is called with no values yet, and sets them.
func (x *expansion) withLocals(b body) (api.Term, error) {
	t := api.Term{Kind: api.CLambda}
	var steps, values []pending
	for _, def := range b.locals {
		t.Params = append(t.Params, def.local)
		value := func() (api.Term, error) { return x.value(def, b.at) }
		steps = append(steps, x.later(api.Term{Kind: api.CSet, N: def.local}, value))
		values = append(values, x.later(api.Term{Kind: api.CQuote, Data: api.Datum{N: noValue}}))
	}
	steps = append(steps, each(x.expression, b.expressions)...)
	procedure := x.later(t, x.later(api.Term{Kind: api.CBegin}, steps...))
	return x.made(api.Term{Kind: api.CCall}, slices.Insert(values, 0, procedure)...)
}
