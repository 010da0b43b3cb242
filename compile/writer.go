package compile

import (
	"spindle/api"
	"spindle/scope"
)

// writer writes code from its front.
type writer struct {
	code []api.Instr
	row  []procedure // those whose code isn't written yet, in the order of their closures
}

// procedure is where a closure stands, and what is done when that is called.
type procedure struct {
	closure int
	body    api.Term
}

// program is the code of a program, which is right and resolved. The data that it quotes are shared with t.
func program(t api.Term) []api.Instr {
	w := writer{}
	w.term(t, true)
	for len(w.row) > 0 {
		first := w.row[0]
		w.row = w.row[1:]
		w.pointHere(first.closure)
		w.term(first.body, true)
	}
	return w.code
}

// term writes the code of a term, which is last or not.
func (w *writer) term(t api.Term, last bool) {
	switch t.Kind {
	case api.CIf:
		w.choice(t.Kids, last)
	case api.CBegin:
		w.series(t.Kids, last)
	case api.CCall:
		w.call(t.Kids, last)
	case api.CLambda:
		w.row = append(w.row, procedure{len(w.code), t.Kids[0]})
		w.value(t, last)
	case api.CSet, api.CAssign, api.CDefine:
		w.term(t.Kids[0], false)
		fallthrough
	case api.CQuote, api.CLocal, api.CGlobal:
		w.value(t, last)
	}
}

// choice writes the code of a CIf with these kids.
func (w *writer) choice(kids []api.Term, last bool) {
	third := api.Term{Kind: api.CQuote}
	if len(kids) == 3 {
		third = kids[2]
	}
	w.term(kids[0], false)
	unless := w.add(api.Instr{Op: api.IUnless})
	w.term(kids[1], last)
	if last {
		w.pointHere(unless)
		w.term(third, true)
		return
	}
	jump := w.add(api.Instr{Op: api.IJump})
	w.pointHere(unless)
	w.term(third, false)
	w.pointHere(jump)
}

// series writes the codes of a CBegin's kids.
func (w *writer) series(kids []api.Term, last bool) {
	end := len(kids) - 1
	for _, kid := range kids[:end] {
		w.term(kid, false)
	}
	w.term(kids[end], last)
}

// call writes the code of a CCall with these kids.
func (w *writer) call(kids []api.Term, last bool) {
	args := len(kids) - 1
	if last {
		w.pushes(kids)
		w.add(api.Instr{Op: api.ITail, A: args})
		return
	}
	frame := w.add(api.Instr{Op: api.IFrame})
	w.pushes(kids)
	w.add(api.Instr{Op: api.ICall, A: args})
	w.pointHere(frame)
}

// pushes writes what pushes all that a call needs.
func (w *writer) pushes(kids []api.Term) {
	for _, kid := range kids {
		w.term(kid, false)
		w.add(api.Instr{Op: api.IPush})
	}
}

// value writes the instruction that gives a term its value, and what follows where the term is last.
func (w *writer) value(t api.Term, last bool) {
	w.add(own(t))
	if last {
		w.add(api.Instr{Op: api.IReturn})
	}
}

// add writes one instruction; it tells its place.
func (w *writer) add(i api.Instr) int {
	w.code = append(w.code, i)
	return len(w.code) - 1
}

// pointHere makes the instruction at a place name the place that is written next.
func (w *writer) pointHere(place int) { w.code[place].A = len(w.code) }

// own is the instruction of a term that is no CIf, CBegin or CCall; a closure's place is left open.
func own(t api.Term) api.Instr {
	i := api.Instr{Op: operation(t.Kind), Name: t.Name, Data: t.Data}
	switch t.Kind {
	case api.CSet:
		fallthrough
	case api.CLocal:
		i.A, i.B = scope.Place(t.N)
	case api.CLambda:
		i.B = 2*len(t.Params) + t.N
	}
	return i
}

// operation is that of such a term's instruction.
func operation(kind int) int {
	return [...]int{
		api.CQuote: api.IConst, api.CLocal: api.ILocal, api.CGlobal: api.IGlobal, api.CSet: api.ISet,
		api.CAssign: api.IAssign, api.CDefine: api.IDefine, api.CLambda: api.IClosure,
	}[kind]
}
