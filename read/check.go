package read

import (
	"spindle/api"
	"spindle/lex"
)

const (
	mostCounted = 5000 // parts of a datum that are counted
	lastChar    = 255
)

// Check: may it be one?
func Check(d api.Datum) error {
	// Few parts are looked through soon, also where data are shared or go round.
	if Parts(d) > api.MaxTerms || !isRight(d, 1) {
		return api.ErrForm
	}
	return nil
}

// Parts: how many data it is made of.
func Parts(d api.Datum) int { return countOn(0, d) }

// countOn is n and the parts of d, or mostCounted, which n is below.
func countOn(n int, d api.Datum) int {
	n++
	for _, item := range d.Items {
		if n == mostCounted {
			break
		}
		n = countOn(n, item)
	}
	return n
}

// isRight tells whether d is right, the one numbered depth of those within one another.
func isRight(d api.Datum, depth int) bool {
	if depth > api.MaxDepth || !isKind(d) {
		return false
	}
	for _, item := range d.Items {
		if !isRight(item, depth+1) {
			return false
		}
	}
	return true
}

// isKind tells whether d's fields are as its kind asks for, whatever its items are by themselves.
func isKind(d api.Datum) bool {
	switch d.Kind {
	case api.DInt, api.DBool, api.DChar:
		return isNumber(d) && d.Text == "" && len(d.Items) == 0
	case api.DStr, api.DSym:
		return isText(d) && d.N == 0 && len(d.Items) == 0
	case api.DDot:
		if !isDotted(d.Items) {
			return false
		}
		fallthrough
	case api.DList, api.DVec:
		return d.N == 0 && d.Text == ""
	}
	return false
}

// isNumber tells whether N is within the bounds of d's kind.
func isNumber(d api.Datum) bool {
	switch d.Kind {
	case api.DInt:
		return d.N >= -api.MaxFix-1 && d.N <= api.MaxFix
	case api.DBool:
		return d.N == 0 || d.N == 1
	}
	return d.N >= 0 && d.N <= lastChar
}

// isText tells whether Text may be one of d's kind.
func isText(d api.Datum) bool {
	if d.Kind == api.DSym {
		return lex.Symbol(d.Text)
	}
	return len(d.Text) <= api.MaxString
}

// isDotted tells whether the items may stand in a list with a full stop ahead of the last one.
func isDotted(items []api.Datum) bool {
	if len(items) < 2 {
		return false
	}
	last := items[len(items)-1].Kind
	return last != api.DList && last != api.DDot
}
