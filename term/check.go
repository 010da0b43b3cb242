package term

import (
	"spindle/api"
	"spindle/datum"
	"spindle/lex"
)

const mostWithin = 200 // terms within one another

// What is known of a local that was met among Params.
const (
	around = 1 // its procedure is around what is looked at
	behind = 2 // its procedure is behind
)

// locals are those that were met on the way through a program, from its front.
type locals map[int]int

// isRight tells whether t is right where it stands, the one numbered depth of those within one another.
func (l locals) isRight(t api.Term, depth int) bool {
	if depth > mostWithin || !l.fits(t) || !l.enter(t.Params) {
		return false
	}
	for _, kid := range t.Kids {
		if !l.isRight(kid, depth+1) {
			return false
		}
	}
	l.leave(t.Params)
	return true
}

// fits tells whether t's fields are as its kind asks for, whatever its kids are by themselves, and whether its Params are new.
func (l locals) fits(t api.Term) bool {
	ok := false
	kids := len(t.Kids)
	// What the kind names is looked at and put aside: all that is left must be zero.
	switch t.Kind {
	case api.CQuote:
		ok = kids == 0 && datum.Quotable(t.Data)
		t.Data = api.Datum{}
	case api.CSet:
		kids--
		fallthrough
	case api.CLocal:
		ok = kids == 0 && l[t.N] == around
		t.N = 0
	case api.CAssign, api.CDefine:
		kids--
		fallthrough
	case api.CGlobal:
		ok = kids == 0 && lex.Symbol(t.Name)
		t.Name = ""
	case api.CIf:
		ok = kids == 2 || kids == 3
	case api.CLambda:
		ok = kids == 1 && takesParams(t)
		t.N, t.Params = 0, nil
	case api.CCall:
		if kids > api.MaxArgs+1 {
			break
		}
		fallthrough
	case api.CBegin:
		ok = kids > 0
	}
	return ok && t.N == 0 && t.Name == "" && len(t.Params) == 0 && datum.Nothing(t.Data)
}

// takesParams tells whether a procedure may have as many Params, and take the rest if it does.
func takesParams(t api.Term) bool {
	return len(t.Params) <= api.MaxParams && t.N >= 0 && t.N <= min(1, len(t.Params))
}

// enter goes into the procedure that has these Params; it tells whether each may be one, and is met for the first time.
func (l locals) enter(params []int) bool {
	for _, p := range params {
		if p <= 0 || l[p] != 0 {
			return false
		}
		l[p] = around
	}
	return true
}

// leave goes on behind the procedure that has these Params.
func (l locals) leave(params []int) {
	for _, p := range params {
		l[p] = behind
	}
}
