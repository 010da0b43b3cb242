package expand_test

import (
	"math/rand"
	"strings"
	"testing"

	"spindle/api"
	"spindle/expand"
	"spindle/read"
	"spindle/term"
)

// What follows is the chapter's expansion a second time, over pairs whose names are pointers: a name that a macro brings in is a new one, which knows what it was made of, and in which scope.

// A node is a name, a pair, the empty list, a vector (its list is first), or another datum.
type node struct {
	what        int
	name        *ident
	first, rest *node
	is          api.Datum
}

const (
	isName = iota
	isPair
	isNil
	isVector
	isAtom
)

type ident struct {
	symbol string
	from   *ident
	scope  *scope
}

// A scope gives one name a meaning: a local, or a macro.
type scope struct {
	outer *scope
	id    *ident
	means any
}

// keyword is a form of the core.
type keyword string

// rules are a macro.
type rules struct {
	scope    *scope
	dots     *ident
	literals map[*ident]bool
	rules    [][2]*node
}

// A world is what is known at the top, and what one expansion has made.
type world struct {
	top     map[string]any
	symbols map[string]*ident
	locals  int
}

// fault is an error that is on its way out.
type fault struct{ about string }

// fail tells of one in the form that is looked at.
func fail() { panic(&fault{}) }

// blame names the form that an error comes out of, if it has a name at its head and nobody within was blamed: it is deferred.
func (w *world) blame(n *node) {
	caught := recover()
	if f, ok := caught.(*fault); ok && f.about == "" && n.isList() && n.what == isPair && n.first.what == isName {
		f.about = n.first.name.symbol
	}
	if caught != nil {
		panic(caught)
	}
}

// newWorld is one in which the prelude was done.
func newWorld() *world {
	w := &world{top: map[string]any{}, symbols: map[string]*ident{}}
	for _, name := range strings.Fields("quote if set! lambda begin define define-syntax let-syntax letrec-syntax syntax-rules") {
		w.top[name] = keyword(name)
	}
	for _, d := range data(expand.Prelude()) {
		w.expand(d)
	}
	return w
}

// expand is what comes of a form, as text.
func (w *world) expand(d api.Datum) (said string) {
	defer func() {
		if caught := recover(); caught != nil {
			said = "error form"
			if about := caught.(*fault).about; about != "" {
				said += ": " + about
			}
		}
	}()
	text, e := term.Text(w.atTop(w.node(d)))
	if e != nil {
		return "error long"
	}
	return text
}

// symbol is the name that is a symbol.
func (w *world) symbol(s string) *ident {
	if w.symbols[s] == nil {
		w.symbols[s] = &ident{symbol: s}
	}
	return w.symbols[s]
}

// node is a datum as pairs.
func (w *world) node(d api.Datum) *node {
	switch n := len(d.Items) - 1; d.Kind {
	case api.DSym:
		return &node{what: isName, name: w.symbol(d.Text)}
	case api.DList:
		return w.chain(d.Items, &node{what: isNil})
	case api.DVec:
		return &node{what: isVector, first: w.chain(d.Items, &node{what: isNil})}
	case api.DDot:
		return w.chain(d.Items[:n], w.node(d.Items[n]))
	}
	return &node{what: isAtom, is: d}
}

func (w *world) chain(items []api.Datum, end *node) *node {
	for i := range items {
		end = &node{what: isPair, first: w.node(items[len(items)-1-i]), rest: end}
	}
	return end
}

// plain is what pairs are as a datum, with symbols as names.
func (n *node) plain() api.Datum {
	switch n.what {
	case isName:
		return api.Datum{Kind: api.DSym, Text: n.name.symbol}
	case isAtom:
		return n.is
	case isVector:
		return api.Datum{Kind: api.DVec, Items: n.first.plain().Items}
	}
	d := api.Datum{Kind: api.DList}
	for ; n.what == isPair; n = n.rest {
		d.Items = append(d.Items, n.first.plain())
	}
	if n.what != isNil {
		d = api.Datum{Kind: api.DDot, Items: append(d.Items, n.plain())}
	}
	return d
}

// isList tells whether pairs end with the empty list.
func (n *node) isList() bool {
	for n.what == isPair {
		n = n.rest
	}
	return n.what == isNil
}

// list are the items of one; it fails where there is none, or fewer than least, or more than most.
func (n *node) list(least, most int) []*node {
	var items []*node
	for ; n.what == isPair; n = n.rest {
		items = append(items, n.first)
	}
	if n.what != isNil || len(items) < least || len(items) > most {
		fail()
	}
	return items
}

// id is the name that n is; it fails where that is none.
func (n *node) id() *ident {
	if n.what != isName {
		fail()
	}
	return n.name
}

// binder is the scope that binds a name, or else the symbol that the top binds.
func binder(id *ident, s *scope) (*scope, string) {
	for ; s != nil; s = s.outer {
		if s.id == id {
			return s, ""
		}
	}
	if id.from != nil {
		return binder(id.from, id.scope)
	}
	return nil, id.symbol
}

// means is what a name means: a number, a keyword, rules, or nothing.
func (w *world) means(id *ident, s *scope) any {
	if by, symbol := binder(id, s); by == nil {
		return w.top[symbol]
	} else {
		return by.means
	}
}

// uses is what the head of a form means, if it is a list that begins with a name.
func (w *world) uses(n *node, s *scope) any {
	if n.what == isPair && n.isList() && n.first.what == isName {
		return w.means(n.first.name, s)
	}
	return nil
}

// local is a scope in which a name is a new local.
func (w *world) local(id *ident, s *scope) (*scope, int) {
	w.locals++
	return &scope{outer: s, id: id, means: w.locals}, w.locals
}

const many = 1 << 20

func (w *world) atTop(n *node) api.Term {
	defer w.blame(n)
	nothing := api.Term{Kind: api.CQuote}
	switch means := w.uses(n, nil).(type) {
	case *rules:
		return w.atTop(w.use(means, n, nil))
	case keyword:
		switch means {
		case "begin":
			t := api.Term{Kind: api.CBegin}
			for _, kid := range n.rest.list(0, many) {
				t.Kids = append(t.Kids, w.atTop(kid))
			}
			if t.Kids == nil {
				return nothing
			}
			return t
		case "define":
			id, value := w.define(n)
			delete(w.top, id.symbol)
			return api.Term{Kind: api.CDefine, Name: id.symbol, Kids: []api.Term{value(nil)}}
		case "define-syntax":
			two := n.rest.list(2, 2)
			id, r := two[0].id(), w.rules(two[1], nil)
			w.top[id.symbol] = r
			return nothing
		}
	}
	return w.expression(n, nil)
}

// define is what a definition says: a name, and what it is in a scope.
func (w *world) define(n *node) (*ident, func(s *scope) api.Term) {
	what := n.rest.list(1, many)
	if what[0].what == isPair {
		return what[0].first.id(), func(s *scope) api.Term { return w.lambda(what[0].rest, what[1:], s) }
	}
	if len(what) != 2 {
		fail()
	}
	return what[0].id(), func(s *scope) api.Term { return w.expression(what[1], s) }
}

func (w *world) expression(n *node, s *scope) api.Term {
	defer w.blame(n)
	switch n.what {
	case isName:
		switch means := w.means(n.name, s).(type) {
		case int:
			return api.Term{Kind: api.CLocal, N: means}
		case nil:
			return api.Term{Kind: api.CGlobal, Name: n.name.symbol}
		}
		fail()
	case isAtom, isVector:
		return api.Term{Kind: api.CQuote, Data: n.plain()}
	case isNil:
		fail()
	}
	switch means := w.uses(n, s).(type) {
	case *rules:
		return w.expression(w.use(means, n, s), s)
	case keyword:
		return w.core(string(means), n.rest, s)
	}
	return api.Term{Kind: api.CCall, Kids: w.expressions(n.list(1, many), s)}
}

func (w *world) expressions(l []*node, s *scope) []api.Term {
	var kids []api.Term
	for _, n := range l {
		kids = append(kids, w.expression(n, s))
	}
	return kids
}

// core is what comes of a form of the core, without its head.
func (w *world) core(name string, n *node, s *scope) api.Term {
	switch name {
	case "quote":
		return api.Term{Kind: api.CQuote, Data: n.list(1, 1)[0].plain()}
	case "if":
		return api.Term{Kind: api.CIf, Kids: w.expressions(n.list(2, 3), s)}
	case "begin":
		return api.Term{Kind: api.CBegin, Kids: w.expressions(n.list(1, many), s)}
	case "set!":
		two := n.list(2, 2)
		t := api.Term{Kind: api.CAssign}
		switch means := w.means(two[0].id(), s).(type) {
		case int:
			t = api.Term{Kind: api.CSet, N: means}
		case nil:
			t.Name = two[0].name.symbol
		default:
			fail()
		}
		t.Kids = w.expressions(two[1:], s)
		return t
	case "lambda":
		l := n.list(1, many)
		return w.lambda(l[0], l[1:], s)
	case "let-syntax", "letrec-syntax":
		l := n.list(1, many)
		return w.body(l[1:], w.bindAll(l[0], s, name == "letrec-syntax"))
	}
	fail()
	return api.Term{}
}

// bindAll is the scope in which names are macros.
func (w *world) bindAll(bindings *node, s *scope, rec bool) *scope {
	at := s
	var specs []func()
	for _, binding := range bindings.list(0, many) {
		two := binding.list(2, 2)
		inner := &scope{outer: s, id: two[0].id()}
		s = inner
		specs = append(specs, func() {
			if rec {
				at = s
			}
			inner.means = w.rules(two[1], at)
		})
	}
	for _, scope := range specs {
		scope()
	}
	return s
}

func (w *world) lambda(params *node, forms []*node, s *scope) api.Term {
	t := api.Term{Kind: api.CLambda}
	met := map[*ident]bool{}
	bind := func(id *ident) {
		if met[id] {
			fail()
		}
		met[id] = true
		var local int
		s, local = w.local(id, s)
		t.Params = append(t.Params, local)
	}
	for ; params.what == isPair; params = params.rest {
		bind(params.first.id())
	}
	if params.what != isNil {
		bind(params.id())
		t.N = 1
	}
	t.Kids = []api.Term{w.body(forms, s)}
	return t
}

// A waiting form is one of a body, within those that it came of or stood in.
type waiting struct {
	n      *node
	around []*node
}

// under does something within forms that are blamed for what fails there, the last one first.
func (w *world) under(around []*node, do func()) {
	if len(around) == 0 {
		do()
		return
	}
	defer w.blame(around[0])
	w.under(around[1:], do)
}

func (w *world) body(forms []*node, s *scope) api.Term {
	var row []waiting
	for _, n := range forms {
		row = append(row, waiting{n: n})
	}
	sets := []func() api.Term{}
	procedure := api.Term{Kind: api.CLambda}
	met := map[*ident]bool{}
	meet := func(id *ident) *ident {
		if met[id] {
			fail()
		}
		met[id] = true
		return id
	}
	ends := false
	for len(row) > 0 && !ends {
		n, around := row[0].n, append(append([]*node{}, row[0].around...), row[0].n)
		w.under(around, func() {
			means := w.uses(n, s)
			if r, ok := means.(*rules); ok {
				row[0] = waiting{w.use(r, n, s), around}
				return
			}
			switch means {
			case keyword("begin"):
				var inner []waiting
				for _, kid := range n.rest.list(0, many) {
					inner = append(inner, waiting{kid, around})
				}
				row = append(inner, row[1:]...)
			case keyword("define"):
				id, value := w.define(n)
				var local int
				s, local = w.local(meet(id), s)
				procedure.Params = append(procedure.Params, local)
				sets = append(sets, func() (t api.Term) {
					w.under(around, func() { t = api.Term{Kind: api.CSet, N: local, Kids: []api.Term{value(s)}} })
					return t
				})
				row = row[1:]
			case keyword("define-syntax"):
				two := n.rest.list(2, 2)
				s = &scope{outer: s, id: meet(two[0].id())}
				s.means = w.rules(two[1], s)
				row = row[1:]
			default:
				ends = true
			}
		})
	}
	if !ends {
		fail()
	}
	kid := api.Term{Kind: api.CBegin}
	for _, set := range sets {
		kid.Kids = append(kid.Kids, set())
	}
	for _, one := range row {
		w.under(one.around, func() { kid.Kids = append(kid.Kids, w.expression(one.n, s)) })
	}
	if len(sets) == 0 {
		if len(kid.Kids) == 1 {
			return kid.Kids[0]
		}
		return kid
	}
	procedure.Kids = []api.Term{kid}
	call := api.Term{Kind: api.CCall, Kids: []api.Term{procedure}}
	for range sets {
		call.Kids = append(call.Kids, api.Term{Kind: api.CQuote, Data: api.Datum{N: 1}})
	}
	return call
}

// rules are the macro that is specified in a scope.
func (w *world) rules(n *node, s *scope) *rules {
	if w.uses(n, s) != keyword("syntax-rules") {
		fail()
	}
	l := w.bare(n.rest).list(1, many)
	r := &rules{scope: s, dots: w.symbol("..."), literals: map[*ident]bool{}}
	if l[0].what == isName {
		r.dots, l = l[0].name, l[1:]
	}
	if len(l) == 0 {
		fail()
	}
	for _, literal := range l[0].list(0, many) {
		r.literals[literal.id()] = true
	}
	for _, n := range l[1:] {
		two := n.list(2, 2)
		if two[0].what != isPair {
			fail()
		}
		r.check(two[0].rest, map[*ident]bool{})
		r.rules = append(r.rules, [2]*node{two[0].rest, two[1]})
	}
	return r
}

// bare is n, in which names that come from the ellipsis or the underscore are these.
func (w *world) bare(n *node) *node {
	switch n.what {
	case isName:
		if n.name.symbol == "..." || n.name.symbol == "_" {
			return &node{what: isName, name: w.symbol(n.name.symbol)}
		}
	case isPair:
		return &node{what: isPair, first: w.bare(n.first), rest: w.bare(n.rest)}
	case isVector:
		return &node{what: isVector, first: w.bare(n.first)}
	}
	return n
}

// isDots tells whether n is the ellipsis of patterns.
func (r *rules) isDots(n *node) bool {
	return n.what == isName && n.name == r.dots && !r.literals[r.dots]
}

// isVariable tells whether n is a variable of patterns.
func (r *rules) isVariable(n *node) bool {
	return n.what == isName && !r.literals[n.name] && !r.isDots(n) && (n.name.symbol != "_" || n.name.from != nil)
}

// check fails, unless n may be a pattern.
func (r *rules) check(n *node, met map[*ident]bool) {
	switch {
	case r.isDots(n):
		fail()
	case r.isVariable(n):
		if met[n.name] {
			fail()
		}
		met[n.name] = true
	case n.what == isVector:
		r.check(n.first, met)
	}
	for dots := 0; n.what == isPair; {
		r.check(n.first, met)
		n = n.rest
		if n.what == isPair && r.isDots(n.first) {
			n = n.rest
			dots++
		}
		if dots > 1 {
			fail()
		}
		if n.what != isPair {
			r.check(n, met)
		}
	}
}

// stood is what a variable stands for: a node, or several.
type stood struct {
	n    *node
	kids []map[*ident]*stood
	deep bool
}

// use is what comes of a form that uses a macro.
func (w *world) use(r *rules, n *node, s *scope) *node {
	for _, rule := range r.rules {
		if b := (map[*ident]*stood{}); w.match(r, rule[0], n.rest, s, b) {
			return r.fill(rule[1], b, map[*ident]*ident{}, false)
		}
	}
	fail()
	return nil
}

// length is how many pairs there are.
func (n *node) length() int {
	if n.what != isPair {
		return 0
	}
	return 1 + n.rest.length()
}

func (w *world) match(r *rules, p, n *node, s *scope, b map[*ident]*stood) bool {
	switch p.what {
	case isName:
		if r.literals[p.name] {
			if n.what != isName {
				return false
			}
			one, a := binder(p.name, r.scope)
			other, c := binder(n.name, s)
			return one == other && a == c
		}
		if r.isVariable(p) {
			b[p.name] = &stood{n: n}
		}
		return true
	case isNil:
		return n.what == isNil
	case isVector:
		return n.what == isVector && w.match(r, p.first, n.first, s, b)
	case isAtom:
		return n.what == isAtom && n.is.Kind == p.is.Kind && n.is.N == p.is.N && n.is.Text == p.is.Text
	}
	if p.rest.what == isPair && r.isDots(p.rest.first) {
		var all []map[*ident]*stood
		for take := n.length() - p.rest.rest.length(); take > 0; take-- {
			one := map[*ident]*stood{}
			if !w.match(r, p.first, n.first, s, one) {
				return false
			}
			all = append(all, one)
			n = n.rest
		}
		vars := map[*ident]bool{}
		r.check(p.first, vars)
		for id := range vars {
			b[id] = &stood{kids: all, deep: true}
		}
		return w.match(r, p.rest.rest, n, s, b)
	}
	return n.what == isPair && w.match(r, p.first, n.first, s, b) && w.match(r, p.rest, n.rest, s, b)
}

// isEllipsis tells whether n is one in a template.
func (r *rules) isEllipsis(n *node, b map[*ident]*stood, escaped bool) bool {
	return n.what == isName && n.name == r.dots && b[n.name] == nil && !escaped
}

// fill is what comes of a template.
func (r *rules) fill(n *node, b map[*ident]*stood, called map[*ident]*ident, escaped bool) *node {
	switch n.what {
	case isName:
		if v := b[n.name]; v != nil {
			if v.deep {
				fail()
			}
			return v.n
		}
		if called[n.name] == nil {
			called[n.name] = &ident{symbol: n.name.symbol, from: n.name, scope: r.scope}
		}
		return &node{what: isName, name: called[n.name]}
	case isPair:
		if r.isEllipsis(n.first, b, escaped) && n.rest.what == isPair && n.rest.rest.what == isNil {
			return r.fill(n.rest.first, b, called, true)
		}
		return r.row(n, b, called, escaped)
	case isVector:
		return &node{what: isVector, first: r.row(n.first, b, called, escaped)}
	}
	return n
}

// row is what comes of the rest of a row.
func (r *rules) row(n *node, b map[*ident]*stood, called map[*ident]*ident, escaped bool) *node {
	if n.what != isPair {
		return r.fill(n, b, called, escaped)
	}
	item, dots := n.first, 0
	for n = n.rest; n.what == isPair && r.isEllipsis(n.first, b, escaped); n = n.rest {
		dots++
	}
	all := r.items(item, dots, b, called, escaped)
	end := r.row(n, b, called, escaped)
	for i := range all {
		end = &node{what: isPair, first: all[len(all)-1-i], rest: end}
	}
	return end
}

// items are what comes of one with so many ellipses.
func (r *rules) items(n *node, dots int, b map[*ident]*stood, called map[*ident]*ident, escaped bool) []*node {
	if dots == 0 {
		return []*node{r.fill(n, b, called, escaped)}
	}
	times := -1
	drivers := map[*ident]*stood{}
	n.each(func(id *ident) {
		if v := b[id]; v != nil && v.deep {
			if times >= 0 && times != len(v.kids) {
				fail()
			}
			drivers[id], times = v, len(v.kids)
		}
	})
	if times < 0 {
		fail()
	}
	var all []*node
	for k := range times {
		inner := map[*ident]*stood{}
		for id, v := range b {
			inner[id] = v
		}
		for id, v := range drivers {
			inner[id] = v.kids[k][id]
		}
		all = append(all, r.items(n, dots-1, inner, called, escaped)...)
	}
	return all
}

// each tells of all names in n.
func (n *node) each(tell func(*ident)) {
	switch n.what {
	case isName:
		tell(n.name)
	case isPair:
		n.rest.each(tell)
		fallthrough
	case isVector:
		n.first.each(tell)
	}
}

// grammar are the ways in which a capital letter may be written; the first ones end.
var grammar = map[byte][]string{
	'N': {"x", "y", "f", "g", "m", "n", "tmp", "a", "b", "x", "y", "m", "n", "if", "or", "let", "define", "else", "begin", "lambda", "quote"},
	'V': {"x", "y", "f", "g", "m", "n", "tmp", "t"},
	'K': {"1", "2", "#t", "\"s\"", "#\\c"},
	'E': {"V", "K", "V", "'D", "(V E)", "(m E)", "(n E E)", "(m)", "(if E E)", "(if E E E)", "(lambda (V) B)", "(lambda (x y) B)", "(lambda V B)", "(lambda (V . V) B)", "(set! V E)", "(begin E E)", "(let ((V E)) B)", "(let ((V E) (V E)) B)", "(let V ((V E)) B)", "(let* ((V E) (V E)) B)", "(letrec ((V E)) B)", "(or E E)", "(and E E)", "(when E E)", "(cond (E E) (else E))", "(cond (E => E))", "(case E ((D) E) (else E))", "(do ((V E E)) (E E) E)", "`(D ,E)", "(E E)", "(let-syntax ((V S)) B)", "(letrec-syntax ((m S) (n S)) B)", "(let-syntax ((m S) (V S)) B)", "F", "(m V E)", "(n (E E) E)"},
	'F': {"()", "(if)", "N", "(N E)", "(N . N)", "(define V E)", "#(V D)", "(lambda (N) E)", "(lambda (N N) E)", "(set! N E)", "(let-syntax E)", "(let ((N E)) E)", "(begin)", "(syntax-rules ())", "(N E . E)"},
	'B': {"E", "E", "E E", "(define V E) B", "(define (V V) B) B", "(define (V . V) B) B", "(define-syntax m S) B", "(define-syntax V S) B", "(begin B) E", "(begin) B", "(m V E) B", "(m V) (n V) E", "(begin (define V E)) B", "(define N E) B", "E B"},
	'D': {"V", "K", "(V D)", "()", "(D . V)", "#(V)", "N"},
	'S': {"(syntax-rules () R)", "(syntax-rules () R)", "(syntax-rules () R R)", "(syntax-rules (else V) R R)", "(syntax-rules () ((_ a b) (define a b)) R)", "(syntax-rules () ((_ a) (define-syntax a S)))", "(syntax-rules ooo (V) ((_ a ooo) (T a ooo)) R)", "(syntax-rules (N) R)", "E", "(syntax-rules () E)"},
	'R': {"((_ a) T)", "((_ a b) T)", "((_) T)", "((_ a ...) U)", "((_ a . b) T)", "((_ (a b) ...) (T (a ... b ...)))", "((_ a ... b) U)", "((_ (a ...) ... b) (T (a ... ...) b))", "((_ #(a) b) T)", "((_ else b) T)", "((_ V b) T)", "((_ a b ...) (T a (T b) ...))", "(P T)"},
	'P': {"(_ P)", "(_ P ...)", "a", "b", "(P P)", "(P . P)", "(P ... P)", "1", "V", "_", "N", "#(P)"},
	'T': {"a", "b", "a", "V", "K", "(T T)", "(V a)", "(lambda (a) T)", "(lambda (V) T)", "(lambda (tmp) (f a tmp))", "(let ((tmp a)) T)", "(let ((a T)) b)", "(or a T)", "(if a b)", "(set! a T)", "(quote a)", "'(a V #(b))", "(define a T)", "(define tmp a)", "(begin (define tmp a) (define b tmp))", "(begin T T)", "(define-syntax a S)", "(m T)", "(n a)", "(let-syntax ((V S)) T)", "(let-syntax ((a S)) b)", "(letrec-syntax ((m S)) T)", "(f a ...)", "(... ...)", "(let () B)", "N"},
	'U': {"(f a ...)", "(lambda (a ...) T)", "(let ((a 1) ...) T)", "(begin a ...)", "(begin (define a 1) ...)", "(or a ...)", "'(a ... . V)", "((T a) ...)", "(V (lambda (V) a) ...)", "b", "#(a ...)", "(define-syntax m (syntax-rules () ((_ (... ...)) '(a ...))))", "(define-syntax V (syntax-rules () ((_ x (... ...)) (f x (... ...)))))"},
	'X': {"E", "(define V E)", "(define (V V) B)", "(define-syntax m S)", "(define-syntax n S)", "(define-syntax V S)", "(begin X X)", "(begin)", "(m V)", "(m V E)", "(n V S)", "F", "(define N E)", "(define-syntax N S)"},
}

// write is a capital letter written somehow.
func write(r *rand.Rand, letter byte, depth int) string {
	ways := grammar[letter]
	if depth <= 0 {
		ways = ways[:min(3, len(ways))]
	}
	var text strings.Builder
	for _, b := range []byte(ways[r.Intn(len(ways))]) {
		if grammar[b] != nil {
			text.WriteString(write(r, b, depth-1))
		} else {
			text.WriteByte(b)
		}
	}
	return text.String()
}

// All forms come to what the chapter says, held against it a second time.
func TestModel(t *testing.T) {
	r := rand.New(rand.NewSource(14))
	fine, failed := 0, 0
	for range 6000 {
		s, w := expand.New(), newWorld()
		var texts []string
		for range 1 + r.Intn(4) {
			text := write(r, 'X', 2+r.Intn(6))
			d, _, e := read.One(text, 0, 1, 1)
			if e != nil || read.Check(d) != nil {
				break
			}
			texts = append(texts, text)
			got := said(s.Expand(d))
			if strings.HasPrefix(got, "error long") || strings.HasPrefix(got, "error steps") {
				break
			}
			if want := w.expand(d); got != want {
				t.Fatalf("%s\n got %s\nwant %s", strings.Join(texts, "\n"), got, want)
			}
			if strings.HasPrefix(got, "error") {
				failed++
			} else {
				fine++
			}
		}
	}
	if fine < 5000 || failed < 3000 {
		t.Errorf("%d forms were fine, %d were not", fine, failed)
	}
}
