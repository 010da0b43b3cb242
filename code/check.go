package code

import (
	"spindle/api"
	"spindle/datum"
	"spindle/lex"
)

const mostUp = 200 // ribs between a local and its own

// isRight tells whether i may be an instruction of code that has so many places.
func isRight(i api.Instr, places int) bool {
	ok := false
	// What the operation names is looked at and put aside: all that is left must be zero.
	switch i.Op {
	case api.IConst:
		ok = datum.Quotable(i.Data)
		i.Data = api.Datum{}
	case api.ILocal, api.ISet:
		ok = isUpTo(i.A, mostUp) && isUpTo(i.B, api.MaxParams-1)
		i.A, i.B = 0, 0
	case api.IGlobal, api.IAssign, api.IDefine:
		ok = lex.Symbol(i.Name)
		i.Name = ""
	case api.IClosure:
		if !takesParams(i.B) {
			break
		}
		i.B = 0
		fallthrough
	case api.IUnless, api.IJump, api.IFrame:
		ok = isUpTo(i.A, places-1)
		i.A = 0
	case api.ICall, api.ITail:
		ok = isUpTo(i.A, api.MaxArgs)
		i.A = 0
	case api.IPush, api.IReturn:
		ok = true
	}
	return ok && i.A == 0 && i.B == 0 && i.Name == "" && datum.Nothing(i.Data)
}

// isUpTo tells whether n is one of the numbers from 0 to most.
func isUpTo(n, most int) bool { return 0 <= n && n <= most }

// takesParams tells whether b is twice how many Params there may be, and one, where the last one takes the rest: so there is a last one.
func takesParams(b int) bool { return isUpTo(b, 2*api.MaxParams+1) && b != 1 }
