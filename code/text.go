package code

import (
	"spindle/api"
	"spindle/fix"
	"spindle/show"
)

// line is the text of the instruction at a place, with that ahead of it.
func line(place int, i api.Instr) string {
	return fix.Text(place) + ": " + word(i.Op) + operands(i) + "\n"
}

// word is what an operation is called.
func word(op int) string {
	return [...]string{
		api.IConst: "const", api.ILocal: "local", api.IGlobal: "global", api.ISet: "set", api.IAssign: "assign", api.IDefine: "define", api.IUnless: "unless",
		api.IJump: "jump", api.IClosure: "closure", api.IFrame: "frame", api.IPush: "push", api.ICall: "call", api.ITail: "tail", api.IReturn: "return",
	}[op]
}

// operands are the texts of the fields that a right instruction's operation names, with a blank ahead of each.
func operands(i api.Instr) string {
	second := ""
	switch i.Op {
	case api.IConst:
		return " " + value(i.Data)
	case api.IGlobal, api.IAssign, api.IDefine:
		return " " + i.Name
	case api.ILocal, api.ISet, api.IClosure:
		second = " " + fix.Text(i.B)
		fallthrough
	case api.IUnless, api.IJump, api.IFrame, api.ICall, api.ITail:
		return " " + fix.Text(i.A) + second
	}
	return ""
}

// value is the text of what is quoted.
func value(d api.Datum) string {
	switch {
	case d.Kind != 0:
		// What is right has a text: no error is left to tell.
		text, _ := show.Write(d)
		return text
	case d.N == 0:
		return "#void"
	}
	return "#undef"
}
