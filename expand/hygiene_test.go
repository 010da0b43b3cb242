package expand_test

import (
	"errors"
	"math/rand"
	"strconv"
	"strings"
	"testing"

	"spindle/api"
	"spindle/expand"
	"spindle/read"
	"spindle/term"
)

// An author writes programs that are right. Names that a program binds begin with a $, each another one.
type author struct {
	r     *rand.Rand
	bound int
}

// a place of a program knows the locals, and the macros, that are bound there; a macro takes one expression.
type known struct{ locals, macros []string }

// name is a new one.
func (a *author) name() string {
	a.bound++
	return "$" + strconv.Itoa(a.bound)
}

// with are k and new locals.
func (k known) with(names ...string) known {
	k.locals = append(append([]string{}, k.locals...), names...)
	return k
}

// one is one of the texts.
func (a *author) one(texts ...string) string { return texts[a.r.Intn(len(texts))] }

// local is one of those that are known, or a global.
func (a *author) local(k known) string {
	if len(k.locals) == 0 || a.r.Intn(5) == 0 {
		return a.one("g", "h", "*w*")
	}
	return a.one(k.locals...)
}

// fill writes a text, in which E is an expression, L a local, Q a datum.
func (a *author) fill(text string, k known, depth int) string {
	var all strings.Builder
	for _, b := range []byte(text) {
		switch b {
		case 'E':
			all.WriteString(a.expression(k, depth))
		case 'L':
			all.WriteString(a.local(k))
		case 'Q':
			all.WriteString(a.one("1", "q", "(q . r)", "()", "#(q)"))
		default:
			all.WriteByte(b)
		}
	}
	return all.String()
}

// expression writes one.
func (a *author) expression(k known, depth int) string {
	depth--
	if depth <= 0 {
		return a.fill(a.one("L", "L", "L", "1", "#t"), k, depth)
	}
	x, y := a.name(), a.name()
	in := func(text string, names ...string) string { return a.fill(text, k.with(names...), depth) }
	body := func(names ...string) string { return a.body(k.with(names...), depth) }
	switch a.r.Intn(21) {
	case 0:
		return in(a.one("(if E E E)", "(if E E)", "(begin E E)", "(set! L E)", "(quote Q)", "#(Q)"))
	case 1:
		return in(a.one("(L E)", "(E E E)", "(L)", "(g L E)"))
	case 2:
		return "(lambda (" + x + ") " + body(x) + ")"
	case 3:
		return a.one("(lambda "+x, "(lambda ("+y+" . "+x+")") + " " + body(x) + ")"
	case 4, 5:
		return in("(let (("+x+" E) ("+y+" E)) ") + body(x, y) + ")"
	case 6:
		return in("(let* (("+x+" E) ") + in("("+y+" E)) ", x) + body(x, y) + ")"
	case 7:
		return in("(let "+x+" (("+y+" E)) ") + body(x, y) + ")"
	case 8:
		return in("(letrec (("+x+" E) ("+y+" E)) ", x, y) + body(x, y) + ")"
	case 9, 10:
		return in(a.one("(or E E)", "(or E E E)", "(or L L)", "(or)"))
	case 11:
		return in(a.one("(and E E)", "(when E E)", "(unless E E E)"))
	case 12:
		return in(a.one("(cond (E E) (else E))", "(cond (E => E) (E))", "(cond (E E))", "(cond (L) (L => L))"))
	case 13:
		return in(a.one("(case E ((Q) E) (else E))", "(case (L E) ((q) E) ((Q r) E))", "(case L ((Q) L))"))
	case 14:
		return in("(do (("+x+" E ") + in("E) ("+y+" 1 E)) (E L E) E)", x, y)
	case 15:
		return in(a.one("(quasiquote (q (unquote E) . Q))", "(quasiquote ((unquote-splicing E) (unquote L) r))", "(quasiquote Q)"))
	case 16, 17:
		return a.withMacro(k, depth)
	case 18:
		return "(let-syntax () " + body() + ")"
	case 19:
		if len(k.macros) > 0 {
			return in("(" + a.one(k.macros...) + " E)")
		}
	}
	return "((lambda (" + x + " " + y + ") " + body(x, y) + ")" + in(" E E)")
}

// body writes one, with definitions or without.
func (a *author) body(k known, depth int) string {
	x, y := a.name(), a.name()
	switch a.r.Intn(6) {
	case 0:
		k = k.with(x)
		return a.fill("(define "+x+" E) E", k, depth)
	case 1:
		k = k.with(x)
		return "(define (" + x + " " + y + ") " + a.fill("E) ", k.with(y), depth) + a.fill("E E", k, depth)
	case 2:
		rules := a.rules(k, depth)
		k.macros = append(append([]string{}, k.macros...), x)
		return "(define-syntax " + x + " " + rules + ") " + a.fill("E ("+x+" L)", k, depth)
	case 3:
		return a.fill("(begin E E) E", k, depth)
	}
	return a.fill("E", k, depth)
}

// rules writes those of a macro that takes one expression; what its template brings in is bound there, or known where it stands.
func (a *author) rules(k known, depth int) string {
	x, y := a.name(), a.name()
	template := a.fill(a.one("E", "(f "+x+" E)"), k.with(x), depth)
	if a.r.Intn(2) == 0 {
		template = "(let ((" + y + " " + x + ")) (g " + x + " " + y + a.fill(" E))", k.with(x, y), depth)
	}
	return "(syntax-rules () ((_ " + x + ") " + template + "))"
}

// withMacro writes an expression with a macro of its own.
func (a *author) withMacro(k known, depth int) string {
	x := a.name()
	rules := a.rules(k, depth)
	k.macros = append(append([]string{}, k.macros...), x)
	return a.one("(let-syntax", "(letrec-syntax") + " ((" + x + " " + rules + ")) " + a.body(k, depth) + ")"
}

// nasty are names that the macros bring in, and others that mean something.
const nasty = "t e r v f x loop b b0 c d k s i a cons append memv list if let lambda begin define define-syntax let-syntax letrec-syntax syntax-rules quote set! or and when unless cond case do quasiquote unquote unquote-splicing else => letrec let* ... _ car tmp f x"

// renaming are other names for those that a program binds: each another one, none that stands in it.
func renaming(r *rand.Rand, d api.Datum, bound int) map[string]string {
	taken := map[string]bool{}
	var note func(d api.Datum)
	note = func(d api.Datum) {
		if d.Kind == api.DSym {
			taken[d.Text] = true
		}
		for _, item := range d.Items {
			note(item)
		}
	}
	note(d)
	if taken["syntax-rules"] {
		taken["..."] = true
	}
	var free []string
	for _, name := range strings.Fields(nasty) {
		if !taken[name] {
			taken[name] = true
			free = append(free, name)
		}
	}
	for i := range bound {
		free = append(free, "v"+strconv.Itoa(i))
	}
	// The nasty ones are used up first, but for some.
	free = free[r.Intn(4):]
	called := map[string]string{}
	for i, n := range r.Perm(bound) {
		called["$"+strconv.Itoa(n+1)] = free[i]
	}
	return called
}

// renamed is d with other names.
func renamed(d api.Datum, called map[string]string) api.Datum {
	if name, ok := called[d.Text]; ok && d.Kind == api.DSym {
		d.Text = name
	}
	items := d.Items
	d.Items = nil
	for _, item := range items {
		d.Items = append(d.Items, renamed(item, called))
	}
	return d
}

// kindOf is an error's kind; 0 of none.
func kindOf(e error) api.Kind {
	var kind api.Kind
	errors.As(e, &kind)
	return kind
}

// A program whose locals, macros and their variables are called otherwise is the same one.
func TestHygiene(t *testing.T) {
	r := rand.New(rand.NewSource(4))
	s := expand.New()
	fine := 0
	for i := range 1500 {
		if i%100 == 0 {
			s = expand.New()
		}
		a := &author{r: r}
		text := a.expression(known{}, 2+r.Intn(4))
		d, _, e := read.One(text, 0, 1, 1)
		if e != nil || read.Check(d) != nil {
			continue
		}
		p, e := s.Expand(d)
		if e == nil {
			fine++
		}
		for range 3 {
			other := renamed(d, renaming(r, d, a.bound))
			// Where a macro sets what isn't a variable, it fails by all names.
			q, f := s.Expand(other)
			if e == nil && !term.Same(p, q) || kindOf(e) != kindOf(f) {
				t.Fatalf("%s\nis, called otherwise, %s\nwhere it was %s", text, said(q, f), said(p, e))
			}
		}
	}
	if fine < 1000 {
		t.Errorf("%d programs are fine", fine)
	}
}
