package term

import (
	"strconv"

	"spindle/api"
	"spindle/show"
)

// writer puts terms' texts one behind the other. All that it is given is right.
type writer struct{ out []byte }

// put puts a text as it is.
func (w *writer) put(s string) { w.out = append(w.out, s...) }

// term puts a term.
func (w *writer) term(t api.Term) {
	switch t.Kind {
	case api.CQuote:
		w.put(quoted(t.Data))
	case api.CLocal:
		t.Name = localName(t.N)
		fallthrough
	case api.CGlobal:
		w.put(t.Name)
	default:
		w.put("(")
		w.head(t)
		w.kids(t.Kids)
		w.put(")")
	}
}

// head puts what stands in a term's parentheses ahead of its kids.
func (w *writer) head(t api.Term) {
	switch t.Kind {
	case api.CSet:
		t.Name = localName(t.N)
		fallthrough
	case api.CAssign:
		w.put("set! " + t.Name + " ")
	case api.CDefine:
		w.put("define " + t.Name + " ")
	case api.CIf:
		w.put("if ")
	case api.CLambda:
		w.put("lambda ")
		w.params(t)
		w.put(" ")
	case api.CBegin:
		w.put("begin ")
	}
}

// kids puts terms with a blank between any two.
func (w *writer) kids(kids []api.Term) {
	for i, kid := range kids {
		if i > 0 {
			w.put(" ")
		}
		w.term(kid)
	}
}

// params puts the locals of a procedure.
func (w *writer) params(t api.Term) {
	last := len(t.Params) - 1
	if t.N == 1 && last == 0 {
		w.put(localName(t.Params[0]))
		return
	}
	w.put("(")
	for i, p := range t.Params {
		switch {
		case t.N == 1 && i == last:
			w.put(" .")
			fallthrough
		case i > 0:
			w.put(" ")
		}
		w.put(localName(p))
	}
	w.put(")")
}

// localName is the text of a local.
func localName(n int) string { return "." + strconv.Itoa(n) }

// quoted is the text of a term that quotes d.
func quoted(d api.Datum) string {
	switch {
	case d.Kind != 0:
		// What is right has a text: no error is left to tell.
		text, _ := show.Write(d)
		return "(quote " + text + ")"
	case d.N == 0:
		return "#void"
	}
	return "#undef"
}
