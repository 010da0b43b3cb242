package expand_test

import (
	"errors"
	"strconv"
	"strings"
	"testing"

	"spindle/api"
	"spindle/expand"
)

// Each kind of fault, and the form that it is about.
func TestErrors(t *testing.T) {
	for about, texts := range map[string][]string{
		"":              {"()", "if", "or", "define", "syntax-rules", "(a . b)", "(if a . b)", "(or . a)", "((f) ())", "((f) if)", "(1 ())", "(() f)", "((lambda (x) x) ())", "((a . b))"},
		"f":             {"(f ())", "(f if)", "(f a (a . b))", "(f ((g) ()))", "(f or)", "((g) (f ()))", "(f (() (g)))", "(define-syntax m (syntax-rules () ((_) (f ())))) (m)"},
		"quote":         {"(quote)", "(quote 1 2)", "(f (g (quote)))"},
		"if":            {"(if)", "(if 1)", "(if 1 2 3 4)", "(if 1 ())", "(if if 1)", "(f (if))", "(if (f 1) (if 1))", "(lambda () (if))", "(begin (if))", "(set! x (if))", "(define x (if))", "(define (f) (if))", "(or (if))", "(let ((x 1)) (if))", "(lambda () (or 1 (if)))", "(lambda () (define x (if)) x)", "(lambda () (define (f) (if)) 1)", "(let-syntax () (if))", "(define-syntax m (syntax-rules () ((_) (if)))) (f (m))"},
		"set!":          {"(set!)", "(set! x)", "(set! x 1 2)", "(set! 5 1)", "(set! () 1)", "(set! (x) 1)", "(set! if 1)", "(set! or 1)", "(set! x ())", "(lambda (x) (set! x))", "(let-syntax ((m (syntax-rules ()))) (set! m 1))"},
		"lambda":        {"(lambda)", "(lambda x)", "(lambda ())", "(lambda (x x) 1)", "(lambda (x y . x) 1)", "(lambda (x y z y) 1)", "(lambda 5 1)", "(lambda (5) 1)", "(lambda (x . 5) 1)", "(lambda (x (y)) 1)", "(lambda #(x) 1)", "(lambda () (define x 1))", "(lambda () (begin))", "(lambda () (define-syntax m (syntax-rules ())))", "(lambda () ())", "(let () (define x 1))", "(define-syntax m (syntax-rules () ((_ x y) (lambda (x y) x)))) (m a a)", "(let ((x 1) (x 2)) x)"},
		"begin":         {"(f (begin))", "(if 1 (begin))", "(begin ())", "(begin 1 if)", "(f (begin ()))", "(lambda () 1 (begin))"},
		"define":        {"(define)", "(define x)", "(define x 1 2)", "(define 5 1)", "(define () 1)", "(define (5) 1)", "(define ((f) x) 1)", "(define (5 . x) 1)", "(define #(x) 1)", "(f (define x 1))", "(if 1 (define x 1))", "(lambda () 1 (define x 1))", "(define x ())", "(define x if)", "(begin (define x))", "(lambda () (define) 1)", "(lambda () (define x) 1)", "(lambda () (define x 1 2) 1)", "(lambda () (define 5 1) 1)", "(lambda () (define ((f)) 1) 1)", "(lambda () (define x 1) (define x 2) x)", "(lambda () (define x 1) (define (x) 2) x)", "(lambda () (define-syntax x (syntax-rules ())) (define x 2) 1)", "(lambda () (begin (define x 1)) (begin (define x 2)) x)", "(lambda () (define x ()) 1)", "(lambda () (define x if) x)", "(let-syntax () (define x 1) (define x 1) 1)"},
		"define-syntax": {"(define-syntax)", "(define-syntax m)", "(define-syntax m 5)", "(define-syntax m x)", "(define-syntax m ())", "(define-syntax 5 (syntax-rules ()))", "(define-syntax (m) (syntax-rules ()))", "(define-syntax m (syntax-rules ()) 1)", "(f (define-syntax m (syntax-rules ())))", "(lambda () 1 (define-syntax m (syntax-rules ())))", "(lambda () (define-syntax m) 1)", "(lambda () (define-syntax 5 (syntax-rules ())) 1)", "(lambda () (define-syntax m (syntax-rules ())) (define-syntax m (syntax-rules ())) 1)", "(lambda () (define m 1) (define-syntax m (syntax-rules ())) 1)", "(define-syntax m (lambda (x) x))", "(define-syntax m (if 1 2))", "(define-syntax m or)", "(define-syntax m (or 1))", "(define-syntax m ((syntax-rules ())))"},
		"let-syntax":    {"(let-syntax)", "(let-syntax ())", "(let-syntax x 1)", "(let-syntax (x) 1)", "(let-syntax ((x)) 1)", "(let-syntax ((5 (syntax-rules ()))) 1)", "(let-syntax ((m (syntax-rules ()) 1)) 1)", "(let-syntax ((m . x)) 1)", "(let-syntax (#(m (syntax-rules ()))) 1)", "(let-syntax ((m (syntax-rules ())) . m) 1)", "(let-syntax 5 1)", "(let-syntax #((m (syntax-rules ()))) 1)", "(let-syntax ((m 5)) 1)", "(let-syntax () ())", "(let-syntax () (begin))", "(let-syntax () (define x 1))", "(f (let-syntax () if))", "(let-syntax () (let-syntax () ()))"},
		"letrec-syntax": {"(letrec-syntax)", "(letrec-syntax ())", "(letrec-syntax x 1)", "(letrec-syntax ((x)) 1)", "(letrec-syntax ((m 5)) 1)", "(letrec-syntax () if)", "(letrec-syntax () (define x 1))"},
		"syntax-rules":  {"(syntax-rules)", "(syntax-rules ())", "(f (syntax-rules ()))", "(lambda () (syntax-rules ()) 1)"},
		"let":           {"(let)", "(let ())", "(let 5 1)", "(let ((x)) 1)", "(let ((x 1)))", "(f (let ((x 1 2)) x))", "(let ((x ())) x)", "(let ((x if)) x)", "(lambda () (let))", "(lambda () (let) 1)", "(lambda () 1 (let) 1)"},
		"or":            {"(or if)", "(f (or ()))", "(or (or if))", "(lambda () (or if))", "(lambda () 1 (or if))"},
		"cond":          {"(cond ())", "(cond 5)", "(cond (else 1) 2)", "(f (cond 1))"},
		"m":             {"(define-syntax m (syntax-rules ())) (m)", "(define-syntax m (syntax-rules () ((_) 1))) (m 1)", "(define-syntax m (syntax-rules () ((_ x) ()))) (m 1)", "(define-syntax m (syntax-rules () ((_ x ...) x))) (m 1)", "(define-syntax m (syntax-rules () ((_ x) (x ...)))) (m 1)", "(define-syntax m (syntax-rules () ((_ (x ...) (y ...)) '((x y) ...)))) (m (1) (2 3))", "(define-syntax m (syntax-rules () ((_ x) if))) (f (m 1))", "(let-syntax ((m (syntax-rules () ((_ a) 1)))) (m))", "(lambda () (define-syntax m (syntax-rules () ((_ a) 1))) (m))"},
		"x":             {"(lambda (x) (x ()))", "(lambda (x) (f 1) (x 2 if))"},
		"tmp":           {"(define-syntax m (syntax-rules () ((_ y) (lambda (tmp) (tmp y))))) (m ())"},
	} {
		for _, text := range texts {
			holdsError(t, text, api.ErrForm, about)
		}
	}
}

// Rules that are none: the errors are about what they stand in.
func TestWrongRules(t *testing.T) {
	for _, rules := range []string{
		"(syntax-rules)", "(syntax-rules 5)", "(syntax-rules x)", "(syntax-rules x 5)", "(syntax-rules \"s\" ())", "(syntax-rules #(a))", "(syntax-rules (5))", "(syntax-rules (a (b)))", "(syntax-rules (a . b))", "(syntax-rules (a \"b\") ((_) 1))", "(syntax-rules . x)", "(syntax-rules x y ())",
		"(syntax-rules () 5)", "(syntax-rules () x)", "(syntax-rules () ())", "(syntax-rules () ((_)))", "(syntax-rules () ((_) 1 2))", "(syntax-rules () ((_) . 1))", "(syntax-rules () #((_) 1))", "(syntax-rules () ((_) 1) 5)", "(syntax-rules () ((_) 1) . x)",
		"(syntax-rules () (x 1))", "(syntax-rules () (() 1))", "(syntax-rules () (5 1))", "(syntax-rules () (#(_ x) 1))", "(syntax-rules () (\"s\" 1))", "(syntax-rules () ((_ x x) 1))", "(syntax-rules () ((_ x (x)) 1))", "(syntax-rules () ((_ x . x) 1))", "(syntax-rules () ((_ x ... y ...) 1))", "(syntax-rules () ((_ ...) 1))", "(syntax-rules () ((_ x ... ...) 1))", "(syntax-rules () ((_ . ...) 1))", "(syntax-rules () ((_ x . ...) 1))", "(syntax-rules () ((_ (... x)) 1))", "(syntax-rules ooo () ((_ ooo) 1))", "(syntax-rules () ((_) 1) ((_ x x) 1))",
	} {
		holdsError(t, "(define-syntax m "+rules+")", api.ErrForm, "define-syntax")
		holdsError(t, "(lambda () (define-syntax m "+rules+") 1)", api.ErrForm, "define-syntax")
		holdsError(t, "(let-syntax ((m "+rules+")) 1)", api.ErrForm, "let-syntax")
		holdsError(t, "(f (letrec-syntax ((n (syntax-rules ())) (m "+rules+")) 1))", api.ErrForm, "letrec-syntax")
	}
}

// More than there may be of one procedure.
func TestLong(t *testing.T) {
	for n := range 30 {
		params, ones := names("p", n), strings.Repeat(" 1", n)
		defines := strings.Repeat("(define x 1) ", n)
		for i := range n {
			defines = strings.Replace(defines, "x 1", "p"+strconv.Itoa(i)+" 1", 1)
		}
		for _, c := range []struct{ about, text string }{
			{"lambda", "(lambda (" + params + ") 1)"},
			{"lambda", "((lambda (" + params + ") 1)" + ones + ")"},
			{"lambda", "(define (f " + params + ") 1)"},
			{"lambda", "(lambda () (define (f " + params + ") 1) 1)"},
			{"lambda", "(lambda () " + defines + " 1)"},
			{"lambda", "(let () " + defines + " 1)"},
			{"lambda", "(lambda () (begin " + defines + ") (define-syntax m (syntax-rules ())) 1)"},
			{"let-syntax", "(f (let-syntax () " + defines + " 1))"},
			{"define", "(define (f) " + defines + " 1)"},
			{"define", "(lambda () (define (f) " + defines + " 1) f)"},
		} {
			holdsLong(t, c.text, n > api.MaxParams, "error long: "+c.about)
		}
		if n > 0 {
			// The one that takes the rest counts, too.
			holdsLong(t, "(lambda ("+params+" . r) 1)", n >= api.MaxParams, "error long: lambda")
		}
		// How many a call has is asked of what came.
		holdsLong(t, "(f"+ones+")", n > api.MaxArgs, "error long")
	}
	// ErrForm comes first.
	for _, text := range []string{"(lambda (" + names("p", 30) + " p3) 1)", "(lambda (" + names("p", 30) + " 5) 1)", "(lambda (" + names("p", 30) + " . p3) 1)"} {
		holdsError(t, text, api.ErrForm, "lambda")
	}
}

// holdsLong tells whether a text is too long, just where it is, and then with that error.
func holdsLong(t *testing.T, text string, long bool, want string) {
	t.Helper()
	got := last(expand.New(), text)
	if long && got != want || !long && strings.HasPrefix(got, "error") {
		t.Errorf("%s\n got %s\nwant %s: %v", text, got, want, long)
	}
}

// Of several errors it is the one that is met first: from the front, but what is defined in a body is expanded behind all definitions.
func TestFirstError(t *testing.T) {
	for about, texts := range map[string][]string{
		"quote":  {"(f (quote) (if))", "(if (quote) (set!))", "(set! x (quote)) (if (f (quote)) (if))", "(begin (quote) (if))", "(lambda () (quote) (if))", "((quote) (if))", "(let ((x (quote))) (quote))", "(lambda () (define x (quote)) (if))", "(lambda () (define x (quote)) (define y (if)) y)", "(lambda () (define x (quote)) 1 (let))", "(lambda () (define (f) (quote)) (if))", "(if (or (quote)) (let))"},
		"let":    {"(let) (let)", "(lambda () (define x (quote)) (let))", "(lambda () (define x (if)) (let) 1)", "(f (let) (if))", "(if (let) (quote))", "(lambda () (begin (define x ()) (let)) (if))"},
		"define": {"(lambda () (define x (quote)) (define x 1) 1)", "(lambda () (define x (quote)) (define) (if))", "(define x (f) (if))", "(lambda () (define x 1) (define x (quote)) (if))"},
		"lambda": {"(lambda () (define x (quote)))", "(lambda (x x) (if))", "(lambda (5) (if))", "((lambda (x x) 1) (if))"},
		"set!":   {"(set! if (quote))", "(set! 5 (quote))"},
		"if":     {"(if 1 2 3 (quote))", "(let ((x (quote))) (if))"},
	} {
		for _, text := range texts {
			if got := last(expand.New(), text); got != "error form: "+about {
				t.Errorf("%s: %s, want about %s", text, got, about)
			}
		}
	}
}

// What names mean at the top stays as it is by then.
func TestStays(t *testing.T) {
	pairs{
		{"(begin (define-syntax m (syntax-rules () ((_) 1))) (if)) (m)", "(quote 1)"}, {"(begin (if) (define-syntax m (syntax-rules () ((_) 1)))) (m)", "(m)"}, {"(define if (quote)) (if)", "(if)"}, {"(begin (define or 1) (define when) (define and 1)) (or (when 1 2) (and))", "(or (if (quote 1) (begin (quote 2))) (quote #t))"},
		{"(define (or x) (quote)) (or)", "(or)"}, {"(define (or or) ()) (or)", "(or)"}, {"(define or) (or)", "(quote #f)"}, {"(define or 1 2) (or)", "(quote #f)"}, {"(define 5 or) (or)", "(quote #f)"},
		{"(define-syntax or 5) (or)", "(quote #f)"}, {"(define-syntax or (syntax-rules () ((_ x x) 1))) (or)", "(quote #f)"}, {"(define-syntax m (syntax-rules () ((_) 1))) (define-syntax m) (m)", "(quote 1)"}, {"(f (define or 1)) (or)", "(quote #f)"}, {"(f (define-syntax or (syntax-rules () ((_) 1)))) (or)", "(quote #f)"}, {"(lambda () (define or 1) (if)) (or)", "(quote #f)"},
		{"(lambda (x) (if)) x", "x"}, {"(let-syntax ((x (syntax-rules () ((_) 1)))) (if)) (x)", "(x)"}, {"(lambda () (define-syntax or (syntax-rules () ((_) 1))) (if)) (or)", "(quote #f)"},
	}.hold(t)
}

// Errors are their kinds, in an About or not; beside them there is no term.
func TestWrapped(t *testing.T) {
	s := expand.New()
	for _, c := range []struct {
		text, about string
		kind        api.Kind
	}{{"(if)", "if", api.ErrForm}, {"()", "", api.ErrForm}, {"(define-syntax loop (syntax-rules () ((_) (loop))))", "", 0}, {"(loop)", "loop", api.ErrSteps}, {"(lambda (" + names("p", 25) + ") 1)", "lambda", api.ErrLong}, {"(f " + names("p", 29) + ")", "", api.ErrLong}} {
		p, e := s.Expand(data(c.text)[0])
		var about api.About
		if c.kind == 0 {
			if e != nil {
				t.Error(c.text, e)
			}
			continue
		}
		if !errors.Is(e, c.kind) || errors.As(e, &about) != (c.about != "") || about.Name != c.about || c.about != "" && about.Err != c.kind {
			t.Errorf("%s: %v about %q", c.text, e, about.Name)
		}
		if p.Kind != 0 || p.N != 0 || p.Name != "" || len(p.Params)+len(p.Kids)+len(p.Data.Items) > 0 {
			t.Errorf("%s: %+v beside an error", c.text, p)
		}
	}
}

// A datum that isn't right is refused, about nothing, and changes nothing; so is all of no system.
func TestWrong(t *testing.T) {
	sym := func(s string) api.Datum { return api.Datum{Kind: api.DSym, Text: s} }
	round := api.Datum{Kind: api.DList, Items: make([]api.Datum, 2)}
	round.Items[0], round.Items[1] = sym("if"), round
	define := api.Datum{Kind: api.DList, Items: []api.Datum{sym("define"), sym("or"), {}}}
	s := expand.New()
	for _, d := range []api.Datum{{}, {Kind: 99}, {Kind: -1}, sym(""), sym("a b"), sym("or 1"), {Kind: api.DInt, Text: "a"}, {Kind: api.DDot}, {Kind: api.DDot, Items: []api.Datum{sym("a")}}, {Kind: api.DList, Items: []api.Datum{sym("if"), {Kind: api.DBool, N: 2}}}, define, round, nested(65), {Kind: api.DList, Items: make([]api.Datum, 5000)}} {
		for _, s := range []*expand.System{s, nil} {
			want := "error form"
			if s == nil {
				want = "error nil"
			}
			if got := said(s.Expand(d)); got != want {
				t.Errorf("a datum of the kind %d: %s, want %s", d.Kind, got, want)
			}
		}
	}
	if got := last(s, "(or)"); got != "(quote #f)" {
		t.Errorf("(or) behind wrong data: %s", got)
	}
	if got := last(nil, "(or)"); got != "error nil" {
		t.Errorf("Expand of no system: %s", got)
	}
	if got := last(&expand.System{}, "(define x 1)"); got != "error nil" {
		t.Errorf("Expand of a system that New didn't make: %s", got)
	}
}

// nested are n lists within one another.
func nested(n int) api.Datum {
	d := api.Datum{Kind: api.DList}
	for range n - 1 {
		d = api.Datum{Kind: api.DList, Items: []api.Datum{d}}
	}
	return d
}

// holdsError tells of the last form of a text whether that kind of error comes, about that.
func holdsError(t *testing.T, text string, kind api.Kind, about string) {
	t.Helper()
	want := "error " + kind.Error()
	if about != "" {
		want += ": " + about
	}
	if got := last(expand.New(), text); got != want {
		t.Errorf("%s\n got %s\nwant %s", text, got, want)
	}
}
