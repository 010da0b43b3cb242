package expand

import (
	"errors"

	"spindle/api"
)

const top = 0 // the place that all others lie within

// What a form is. A use of the core is what its head means.
const (
	none = iota
	aQuote
	anIf
	aSet
	aLambda
	aBegin
	aDefine
	aDefineSyntax
	aLetSyntax
	aLetrecSyntax
	aSyntaxRules
	aUse // of a macro
	aCall
	aName
	aConstant
)

// coreForms are the core's names, in the order of what they mean.
var coreForms = [...]string{"quote", "if", "set!", "lambda", "begin", "define", "define-syntax", "let-syntax", "letrec-syntax", "syntax-rules"}

// form is a datum that is expanded at a place.
type form struct {
	d     api.Datum
	at    int
	about string // the symbol that its errors are about: its head's, or else that of the form that it stands in, or came of
}

// within is the form of a datum that stands in f, or came of it, at the same place.
func (x *expansion) within(f form, d api.Datum) form {
	f.d = d
	if name, ok := head(d); ok {
		f.about = x.table.Strip(name)
	}
	return f
}

// allWithin are the forms of data likewise.
func (x *expansion) allWithin(f form, data []api.Datum) []form {
	var forms []form
	for _, d := range data {
		forms = append(forms, x.within(f, d))
	}
	return forms
}

// head is the name that a list begins with, if it does.
func head(d api.Datum) (string, bool) {
	if d.Kind != api.DList || len(d.Items) == 0 || d.Items[0].Kind != api.DSym {
		return "", false
	}
	return d.Items[0].Text, true
}

// fails is an error of f, or the one of a form within it that it is already.
func (f form) fails(err error) error {
	var inner api.About
	if err == nil || f.about == "" || errors.As(err, &inner) {
		return err
	}
	return api.About{Name: f.about, Err: err}
}

// what tells what a form is.
func (x *expansion) what(f form) int {
	switch f.d.Kind {
	case api.DSym:
		return aName
	case api.DInt, api.DBool, api.DChar, api.DStr, api.DVec:
		return aConstant
	case api.DList:
		return x.whatList(f)
	}
	return none
}

// whatList tells what a form that is a list is.
func (x *expansion) whatList(f form) int {
	if len(f.d.Items) == 0 {
		return none
	}
	if name, ok := head(f.d); ok {
		switch means, _ := x.table.Find(f.at, name); means.Kind {
		case api.MCore:
			return means.N
		case api.MMacro:
			return aUse
		}
	}
	return aCall
}

// unfold is what comes in a form's place where no macro is used any more, and what that is.
func (x *expansion) unfold(f form) (form, int, error) {
	for {
		what := x.what(f)
		if what != aUse {
			return f, what, nil
		}
		d, err := x.use(f)
		if err != nil {
			return form{}, none, f.fails(err)
		}
		f = x.within(f, d)
	}
}
