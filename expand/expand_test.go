package expand_test

import (
	"crypto/sha256"
	"encoding/hex"
	"errors"
	"strconv"
	"strings"
	"testing"

	"spindle/api"
	"spindle/expand"
	"spindle/read"
	"spindle/term"
)

// data are those of a text.
func data(text string) []api.Datum {
	all, e := read.All(text)
	if e != nil {
		panic(text + ": " + e.Error())
	}
	return all
}

// said is what came of a form, as text: a program, or an error, with what it is about.
func said(p api.Term, e error) string {
	if e == nil {
		s, e := term.Text(p)
		if e != nil {
			return "no program"
		}
		return s
	}
	var about api.About
	if errors.As(e, &about) {
		return "error " + about.Err.Error() + ": " + about.Name
	}
	return "error " + e.Error()
}

// last is what comes of the last form of a text, all of them being expanded in order.
func last(s *expand.System, text string) string {
	said1 := ""
	for _, d := range data(text) {
		said1 = said(s.Expand(d))
	}
	return said1
}

// pairs are cases: a text, and what comes of its last form.
type pairs []struct{ text, want string }

// hold holds each of them against a new system.
func (l pairs) hold(t *testing.T) {
	t.Helper()
	for _, c := range l {
		if got := last(expand.New(), c.text); got != c.want {
			t.Errorf("%s\n got %s\nwant %s", c.text, got, c.want)
		}
	}
}

// names are n of them, with blanks between.
func names(ahead string, n int) string {
	var all []string
	for i := range n {
		all = append(all, ahead+strconv.Itoa(i))
	}
	return strings.Join(all, " ")
}

func TestExamples(t *testing.T) {
	pairs{
		{"(or a b)", "((lambda (.1) (if .1 .1 b)) a)"},
		{"(lambda (t) (or #f t))", "(lambda (.1) ((lambda (.2) (if .2 .2 .1)) (quote #f)))"},
		{"(if)", "error form: if"},
	}.hold(t)
}

// The prelude is the chapter's text, all of it is expanded without an error, and New has done so.
func TestPrelude(t *testing.T) {
	sum := sha256.Sum256([]byte(strings.TrimSpace(expand.Prelude())))
	if got := hex.EncodeToString(sum[:]); got != preludeSum {
		t.Errorf("Prelude is another text: %s", got)
	}
	s := expand.New()
	all := data(expand.Prelude())
	if len(all) != 11 {
		t.Errorf("Prelude has %d forms", len(all))
	}
	for _, d := range all {
		// What each of them defines is a macro already, and is one again.
		for range 2 {
			if got := said(s.Expand(api.Datum{Kind: api.DSym, Text: d.Items[1].Text})); got != "error form" {
				t.Errorf("%s: %s", d.Items[1].Text, got)
			}
			if got := said(s.Expand(d)); got != "#void" {
				t.Errorf("%s is expanded to %s", d.Items[1].Text, got)
			}
		}
	}
}

// Expressions of the core, at the top and further in.
func TestExpressions(t *testing.T) {
	for _, c := range (pairs{
		{"x", "x"}, {"5", "(quote 5)"}, {"-7", "(quote -7)"}, {"#t", "(quote #t)"}, {`#\a`, `(quote #\a)`}, {`"s t"`, `(quote "s t")`}, {"#()", "(quote #())"}, {"#(a (if) #(b (c . or)))", "(quote #(a (if) #(b (c . or))))"},
		{"(quote a)", "(quote a)"}, {"'(a . b)", "(quote (a . b))"}, {"'()", "(quote ())"}, {"''a", "(quote (quote a))"}, {"'(if or . let)", "(quote (if or . let))"}, {"'#(a)", "(quote #(a))"}, {"'5", "(quote 5)"},
		{"(if a b)", "(if a b)"}, {"(if a 1 (f b))", "(if a (quote 1) (f b))"}, {"(if (if a b) (if c d e))", "(if (if a b) (if c d e))"},
		{"(set! x 1)", "(set! x (quote 1))"}, {"(lambda (x) (set! x y))", "(lambda (.1) (set! .1 y))"}, {"(lambda (x) (set! y x))", "(lambda (.1) (set! y .1))"},
		{"(lambda () 1)", "(lambda () (quote 1))"}, {"(lambda (x y) y)", "(lambda (.1 .2) .2)"}, {"(lambda (x y) y x)", "(lambda (.1 .2) (begin .2 .1))"},
		{"(lambda x x)", "(lambda .1 .1)"}, {"(lambda (x . y) y)", "(lambda (.1 . .2) .2)"}, {"(lambda (x y . z) (f x y z))", "(lambda (.1 .2 . .3) (f .1 .2 .3))"},
		{"(lambda (x) (lambda (x) x))", "(lambda (.1) (lambda (.2) .2))"}, {"(lambda (x) (lambda (y) x))", "(lambda (.1) (lambda (.2) .1))"}, {"(f (lambda (x) x) x)", "(f (lambda (.1) .1) x)"},
		{"(begin a)", "(begin a)"}, {"(begin a (begin b c))", "(begin a (begin b c))"},
		{"(f)", "(f)"}, {"(f 1 g)", "(f (quote 1) g)"}, {"((f) (g h))", "((f) (g h))"}, {"(1 2)", "((quote 1) (quote 2))"}, {`("s")`, `((quote "s"))`}, {"(#(1) a)", "((quote #(1)) a)"},
		{"((lambda (x) x) 1)", "((lambda (.1) .1) (quote 1))"}, {"(else =>)", "(else =>)"}, {"(... _)", "(... _)"}, {"(unquote x)", "(unquote x)"},
		// What binds a name that means something at the top hides that.
		{"(lambda (if) (if 1 2 3 4 5))", "(lambda (.1) (.1 (quote 1) (quote 2) (quote 3) (quote 4) (quote 5)))"}, {"(lambda (quote) 'x)", "(lambda (.1) (.1 x))"}, {"(lambda (or x) (or x))", "(lambda (.1 .2) (.1 .2))"},
		{"(lambda (lambda) (lambda (x) x))", "(lambda (.1) (.1 (x) x))"}, {"(lambda (set! or) (set! or or))", "(lambda (.1 .2) (.1 .2 .2))"}, {"(lambda (or) (set! or 1))", "(lambda (.1) (set! .1 (quote 1)))"},
		{"(lambda (define) (define x))", "(lambda (.1) (.1 x))"}, {"(lambda (begin) (begin))", "(lambda (.1) (.1))"}, {"(lambda (let-syntax) (let-syntax x))", "(lambda (.1) (.1 x))"},
	}) {
		pairs{c, {"(f " + c.text + ")", "(f " + c.want + ")"}, {"(if " + c.text + " a)", "(if " + c.want + " a)"}, {"(begin " + c.text + ")", "(begin " + c.want + ")"}, {"(set! g " + c.text + ")", "(set! g " + c.want + ")"}}.hold(t)
	}
}

// What stands at the top, and what it leaves there.
func TestTop(t *testing.T) {
	pairs{
		{"(begin)", "#void"}, {"(begin (begin))", "(begin #void)"}, {"(begin (begin) (define x 1) (begin (define y 2)))", "(begin #void (define x (quote 1)) (begin (define y (quote 2))))"},
		{"(define x 5)", "(define x (quote 5))"}, {"(define x (lambda (x) x))", "(define x (lambda (.1) .1))"}, {"(define x x)", "(define x x)"},
		{"(define (f) 1)", "(define f (lambda () (quote 1)))"}, {"(define (f x y) x f)", "(define f (lambda (.1 .2) (begin .1 f)))"}, {"(define (f . x) x)", "(define f (lambda .1 .1))"}, {"(define (f x . y) y)", "(define f (lambda (.1 . .2) .2))"}, {"(define (f f) f)", "(define f (lambda (.1) .1))"},
		{"(define (f) (define x 1) x)", "(define f (lambda () ((lambda (.1) (begin (set! .1 (quote 1)) .1)) #undef)))"},
		{"(define-syntax m (syntax-rules ()))", "#void"}, {"(define-syntax m (syntax-rules () ((_ x) (f x)))) (m 1)", "(f (quote 1))"},
		// A macro that comes to what may stand at the top only.
		{"(define-syntax def (syntax-rules () ((_ n v) (define n v)))) (def x 1)", "(define x (quote 1))"}, {"(define-syntax two (syntax-rules () ((_ a b) (begin a b)))) (two (define x 1) x)", "(begin (define x (quote 1)) x)"},
		{"(define-syntax mac (syntax-rules () ((_ n v) (define-syntax n (syntax-rules () ((_) v)))))) (begin (mac x 5) (x))", "(begin #void (quote 5))"},
		// Each name that is defined is its symbol, whoever brings it in.
		{"(define-syntax def (syntax-rules () ((_ v) (begin (define tmp v) tmp)))) (def 1)", "(begin (define tmp (quote 1)) tmp)"}, {"(define-syntax def (syntax-rules () ((_) (define (tmp) tmp)))) (def)", "(define tmp (lambda () tmp))"},
		{"(define-syntax mac (syntax-rules () ((_) (begin (define-syntax tmp (syntax-rules () ((_) 7))) (tmp))))) (mac)", "(begin #void (quote 7))"}, {"(define-syntax mac (syntax-rules () ((_) (define-syntax tmp (syntax-rules () ((_) 7)))))) (mac) (tmp)", "(quote 7)"},
		// A name that is defined means nothing any more, from then on.
		{"(define if 1) (if)", "(if)"}, {"(define if (if 1)) ", "(define if (if (quote 1)))"}, {"(define (or x) (or x))", "(define or (lambda (.1) (or .1)))"}, {"(begin (or 1) (define or 2) (or 1))", "(begin (quote 1) (define or (quote 2)) (or (quote 1)))"},
		{"(define define 1) (define x 1)", "(define x (quote 1))"}, {"(define if 1) (or 1 2)", "((lambda (.1) (if .1 .1 (quote 2))) (quote 1))"}, {"(define quote 1) '(f x)", "(quote (f x))"},
		// A macro's name means that macro, from then on, also where it meant another one, or a form of the core.
		{"(define-syntax if (syntax-rules () ((_ x) (quote x)))) (if a)", "(quote a)"}, {"(define-syntax m (syntax-rules () ((_) 1))) (define-syntax m (syntax-rules () ((_) 2))) (m)", "(quote 2)"}, {"(begin (define-syntax m (syntax-rules () ((_) 1))) (f (m)) (define m 3) (m))", "(begin #void (f (quote 1)) (define m (quote 3)) (m))"},
		{"(define x 1) (define-syntax x (syntax-rules () ((_) 1))) (x)", "(quote 1)"}, {"(define-syntax syntax-rules (syntax-rules () ((_ x) x))) (syntax-rules 5)", "(quote 5)"}, {"(define-syntax m (syntax-rules () ((_ a) (begin (define-syntax m (syntax-rules () ((_ b) (quote (a b))))) (m 2))))) (m 1)", "(begin #void (quote (1 2)))"},
	}.hold(t)
}

// preludeSum is of the chapter's text, without blanks at its ends.
const preludeSum = "9dabd88ef2e33eb033840a2ed888db382498b33d5df307e0cd22a597d9ca87bd"
