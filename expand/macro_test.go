package expand_test

import (
	"testing"

	"spindle/expand"
)

// Bodies: what they define comes first, and all of it is known to all that is expanded then.
func TestBodies(t *testing.T) {
	for _, c := range (pairs{
		{"1", "(quote 1)"}, {"a b", "(begin a b)"}, {"(begin a)", "a"}, {"(begin a b)", "(begin a b)"}, {"(begin) a", "a"}, {"(begin (begin) (begin (define x 1))) (begin (begin a) (begin b)) c", "((lambda (.1) (begin (set! .1 (quote 1)) a (begin b) c)) #undef)"},
		// Behind the first expression a begin is one.
		{"a (begin b)", "(begin a (begin b))"}, {"(begin a (begin b c))", "(begin a (begin b c))"}, {"(begin) (begin (begin a)) (begin b)", "(begin a (begin b))"},
		{"(define x 1) x", "((lambda (.1) (begin (set! .1 (quote 1)) .1)) #undef)"}, {"(define x 1) (define y x) x y", "((lambda (.1 .2) (begin (set! .1 (quote 1)) (set! .2 .1) .1 .2)) #undef #undef)"},
		{"(define x y) (define y x) y", "((lambda (.1 .2) (begin (set! .1 .2) (set! .2 .1) .2)) #undef #undef)"}, {"(begin (define x 1)) (begin) (begin (define y 2) x) y", "((lambda (.1 .2) (begin (set! .1 (quote 1)) (set! .2 (quote 2)) .1 .2)) #undef #undef)"},
		{"(define (g) h) (define (h x . y) (g)) g", "((lambda (.1 .2) (begin (set! .1 (lambda () .2)) (set! .2 (lambda (.3 . .4) (.1))) .1)) #undef #undef)"}, {"(define (g . x) x) (g)", "((lambda (.1) (begin (set! .1 (lambda .2 .2)) (.1))) #undef)"},
		{"(define (g) (define x g) x) g", "((lambda (.1) (begin (set! .1 (lambda () ((lambda (.2) (begin (set! .2 .1) .2)) #undef))) .1)) #undef)"},
		// What is defined hides what it means around, at once, and for the values, too.
		{"(define if list) (if 1)", "((lambda (.1) (begin (set! .1 list) (.1 (quote 1)))) #undef)"}, {"(define if (if 1)) if", "((lambda (.1) (begin (set! .1 (.1 (quote 1))) .1)) #undef)"}, {"(define (x) (or 1)) (define or 2) x", "((lambda (.1 .2) (begin (set! .1 (lambda () (.2 (quote 1)))) (set! .2 (quote 2)) .1)) #undef #undef)"},
		{"(define define 1) (define 2)", "((lambda (.1) (begin (set! .1 (quote 1)) (.1 (quote 2)))) #undef)"}, {"(define begin 1) (begin)", "((lambda (.1) (begin (set! .1 (quote 1)) (.1))) #undef)"},
		// Macros that are defined, and those that define.
		{"(define-syntax m (syntax-rules () ((_ x) (f x)))) (m 1)", "(f (quote 1))"}, {"(define-syntax m (syntax-rules () ((_ x) (define x 1)))) (m a) (m b) (f a b)", "((lambda (.1 .2) (begin (set! .1 (quote 1)) (set! .2 (quote 1)) (f .1 .2))) #undef #undef)"},
		{"(define-syntax m (syntax-rules () ((_ x v ...) (begin (define x (let-syntax () (m v ...))) x)) ((_) 5))) (m a b) a", "((lambda (.1) (begin (set! .1 ((lambda (.2) (begin (set! .2 (quote 5)) .2)) #undef)) .1 .1)) #undef)"},
		{"(define-syntax m (syntax-rules () ((_) 1))) (define x (m)) (define-syntax n (syntax-rules () ((_) (m)))) (f x (n))", "((lambda (.1) (begin (set! .1 (quote 1)) (f .1 (quote 1)))) #undef)"},
		// Names that macros bring in are others than the user's, and others each time.
		{"(define-syntax m (syntax-rules () ((_) (define tmp 1)))) (m) (m) tmp", "((lambda (.1 .2) (begin (set! .1 (quote 1)) (set! .2 (quote 1)) tmp)) #undef #undef)"}, {"(define-syntax m (syntax-rules () ((_ x) (begin (define tmp 1) (define x tmp))))) (m tmp) tmp", "((lambda (.1 .2) (begin (set! .1 (quote 1)) (set! .2 .1) .2)) #undef #undef)"},
		// The place of a macro is where it is defined: what stands behind that isn't known there.
		{"(define a 1) (define-syntax m (syntax-rules () ((_) (f a b m)))) (define b 2) (quote (m))", "((lambda (.1 .2) (begin (set! .1 (quote 1)) (set! .2 (quote 2)) (quote (m)))) #undef #undef)"}, {"(define a 1) (define-syntax m (syntax-rules () ((_) (f a b)))) (define b 2) (m)", "((lambda (.1 .2) (begin (set! .1 (quote 1)) (set! .2 (quote 2)) (f .1 b))) #undef #undef)"},
		{"(define-syntax m (syntax-rules () ((_ x y ...) (m y ...)) ((_) 3))) (m 1 2)", "(quote 3)"},
	}) {
		pairs{
			{"(lambda () " + c.text + ")", "(lambda () " + c.want + ")"}, {"(define (p) " + c.text + ")", "(define p (lambda () " + c.want + "))"}, {"(let-syntax () " + c.text + ")", c.want}, {"(letrec-syntax () " + c.text + ")", c.want},
			{"(lambda () (lambda () " + c.text + "))", "(lambda () (lambda () " + c.want + "))"}, {"(f (let-syntax ((q (syntax-rules ()))) " + c.text + "))", "(f " + c.want + ")"}, {"(let () " + c.text + ")", "((lambda () " + c.want + "))"},
		}.hold(t)
	}
}

// Macros that let-syntax and letrec-syntax bind.
func TestLetSyntax(t *testing.T) {
	const two = "((a (syntax-rules () ((_) 2))) (b (syntax-rules () ((_) (a)))))"
	const turns = "((ev (syntax-rules () ((_) #t) ((_ x r ...) (od r ...)))) (od (syntax-rules () ((_) #f) ((_ x r ...) (ev r ...)))))"
	pairs{
		{"(let-syntax ((m (syntax-rules () ((_ x) (f x x))))) (m 1))", "(f (quote 1) (quote 1))"}, {"(letrec-syntax ((m (syntax-rules () ((_ x) (f x x))))) (m 1))", "(f (quote 1) (quote 1))"},
		{"(let-syntax " + two + " (f (a) (b)))", "(f (quote 2) (a))"}, {"(letrec-syntax " + two + " (f (a) (b)))", "(f (quote 2) (quote 2))"},
		{"(let-syntax ((a (syntax-rules () ((_) 1)))) (let-syntax " + two + " (f (a) (b))))", "(f (quote 2) (quote 1))"}, {"(let-syntax ((a (syntax-rules () ((_) 1)))) (letrec-syntax " + two + " (f (a) (b))))", "(f (quote 2) (quote 2))"},
		{"(letrec-syntax " + turns + " (f (ev a b) (ev a) (od) (od a b c)))", "(f (quote #t) (quote #f) (quote #f) (quote #t))"}, {"(let-syntax " + turns + " (f (ev a b) (ev)))", "(f (od b) (quote #t))"},
		{"(lambda (x) (let-syntax ((m (syntax-rules () ((_ y) (f x y))))) (lambda (x) (m x))))", "(lambda (.1) (lambda (.2) (f .1 .2)))"}, {"(lambda (x) (let-syntax ((x (syntax-rules () ((_) 1)))) (x)))", "(lambda (.1) (quote 1))"}, {"(lambda (x) (letrec-syntax ((m (syntax-rules () ((_) x))) (x (syntax-rules ()))) (lambda () (m) 1)))", "error form: m"},
		{"(lambda (x) (let-syntax ((m (syntax-rules () ((_) x))) (x (syntax-rules ()))) (lambda () (m) 1)))", "(lambda (.1) (lambda () (begin .1 (quote 1))))"}, {"(let-syntax ((m (syntax-rules () ((_) 1)))) (lambda (m) (m)))", "(lambda (.1) (.1))"}, {"(let-syntax ((m (syntax-rules () ((_) 1))) (m (syntax-rules () ((_) 2)))) (m))", "(quote 2)"},
		{"(let-syntax ((if (syntax-rules () ((_ x) x)))) (f (if 1) (or 2 3)))", "(f (quote 1) ((lambda (.1) (if .1 .1 (quote 3))) (quote 2)))"}, {"(let-syntax ((m (syntax-rules () ((_) (define x 1))))) (m) x)", "((lambda (.1) (begin (set! .1 (quote 1)) x)) #undef)"},
		// Outside they mean nothing.
		{"(f (let-syntax ((m (syntax-rules () ((_) 1)))) (m)) (m))", "(f (quote 1) (m))"}, {"(let-syntax ((m (syntax-rules () ((_) 1)))) (m)) (m)", "(m)"}, {"(let-syntax () (define-syntax m (syntax-rules () ((_) 1))) (m)) (m)", "(m)"}, {"(let-syntax () (define x 1) x) x", "x"}, {"(lambda () (define-syntax or (syntax-rules () ((_) 1))) (or)) (or 2)", "(quote 2)"},
		// A literal means what it means where the macro is.
		{"(lambda (q) (let-syntax ((m (syntax-rules (q) ((_ q) 1) ((_ x) 2)))) (m q)))", "(lambda (.1) (quote 1))"}, {"(lambda (q) (let-syntax ((m (syntax-rules (q) ((_ q) 1) ((_ x) 2)))) (lambda (q) (m q))))", "(lambda (.1) (lambda (.2) (quote 2)))"}, {"(lambda (q) (define-syntax m (syntax-rules (q) ((_ q) 1) ((_ x) 2))) (let-syntax ((n (syntax-rules () ((_ x) (f (m q) (m x)))))) (lambda (q) (n q))))", "(lambda (.1) (lambda (.2) (f (quote 1) (quote 2))))"},
		// The rules stand where the macro does.
		{"(let-syntax ((syntax-rules (syntax-rules () ((_) 1)))) (syntax-rules))", "(quote 1)"}, {"(letrec-syntax ((syntax-rules (syntax-rules () ((_) 1)))) (syntax-rules))", "error form: letrec-syntax"}, {"(lambda (syntax-rules) (let-syntax ((m (syntax-rules ()))) 1))", "error form: let-syntax"},
	}.hold(t)
}

// What is a macro's rules, and which of them is taken.
func TestRules(t *testing.T) {
	for _, c := range (pairs{
		{"(syntax-rules () ((_) 1) ((_ x) 2) ((_ y) 3)) | (m 5)", "(quote 2)"}, {"(syntax-rules () ((_ x ...) 'a) ((_) 'b)) | (m)", "(quote a)"}, {"(syntax-rules () ((_ . x) (quote x))) | (m 1 a . (b))", "(quote (1 a b))"}, {"(syntax-rules () ((_ x . y) (quote (y x)))) | (m 1 2)", "(quote ((2) 1))"},
		// The head of a pattern counts for nothing.
		{"(syntax-rules () ((5 x) (f x))) | (m 1)", "(f (quote 1))"}, {"(syntax-rules () ((x x) (f x))) | (m 1)", "(f (quote 1))"}, {"(syntax-rules () ((... x ...) (f x ...))) | (m 1 2)", "(f (quote 1) (quote 2))"}, {"(syntax-rules () (((a b) x) (f a x))) | (m 1)", "(f a (quote 1))"}, {"(syntax-rules (q) ((q x) (f q))) | (m 1)", "(f q)"},
		// Another ellipsis, and literals.
		{"(syntax-rules ooo () ((_ x ooo) (f x ooo))) | (m 1 2)", "(f (quote 1) (quote 2))"}, {"(syntax-rules ooo () ((_ ...) '(... ...))) | (m 5)", "(quote (5 5))"}, {"(syntax-rules ooo (...) ((_ ...) 1) ((_ x) 2)) | (f (m ...) (m 7))", "(f (quote 1) (quote 2))"}, {"(syntax-rules () ((_ ooo) (f ooo))) | (m 1)", "(f (quote 1))"},
		{"(syntax-rules (q) ((_ q) 1) ((_ x) 2)) | (f (m q) (m r) (m 5))", "(f (quote 1) (quote 2) (quote 2))"}, {"(syntax-rules (_) ((m _) 1) ((m x) 2)) | (f (m _) (m 5))", "(f (quote 1) (quote 2))"}, {"(syntax-rules () ((m _ _) 1)) | (m 5 6)", "(quote 1)"}, {"(syntax-rules (a b) ((_ b a) 1) ((_ a b) 2)) | (m a b)", "(quote 2)"}, {"(syntax-rules (q) ((_ q x q) 'x) ((_ . x) 2)) | (f (m q 1 q) (m q 1 r))", "(f (quote 1) (quote 2))"},
		// A literal is what means the same: not what is bound in between.
		{"(syntax-rules (q) ((_ q) 1) ((_ x) 2)) | (lambda (q) (m q))", "(lambda (.1) (quote 2))"}, {"(syntax-rules (q) ((_ q) 1) ((_ x) 2)) | (let-syntax ((n (syntax-rules () ((_) (m q))))) (lambda (q) (n)))", "(lambda (.1) (quote 1))"},
		// Templates of all kinds; their names are symbols where they are quoted.
		{"(syntax-rules () ((_) '(a #(b c) . d))) | (m)", "(quote (a #(b c) . d))"}, {"(syntax-rules () ((_) #(a (b)))) | (m)", "(quote #(a (b)))"}, {"(syntax-rules () ((_) \"s\")) | (m)", `(quote "s")`}, {"(syntax-rules () ((_ x) x)) | (m (if a b))", "(if a b)"}, {"(syntax-rules () ((_ x y) (x y))) | (m quote a)", "(quote a)"}, {"(syntax-rules () ((_ x y) (x y))) | (m lambda 1)", "error form: lambda"},
		{"(syntax-rules () ((_ (x y) ...) (f (y ... x) ...))) | (m (1 2))", "error form: m"}, {"(syntax-rules () ((_ (x y ...) ...) (f (y ... x) ...))) | (m (1 g) (2) (3 g h))", "(f (g (quote 1)) ((quote 2)) (g h (quote 3)))"},
		{"(syntax-rules () ((_ x) (lambda (x) y))) | (m y)", "(lambda (.1) y)"}, {"(syntax-rules () ((_ x) (lambda (y) x))) | (m y)", "(lambda (.1) y)"}, {"(syntax-rules () ((_ x) (lambda (y x) (f y x)))) | (m y)", "(lambda (.1 .2) (f .1 .2))"}, {"(syntax-rules () ((_ x ...) (lambda (x ... y) (f x ... y)))) | (m y z)", "(lambda (.1 .2 .3) (f .1 .2 .3))"},
		{"(syntax-rules () ((_ x y) (let ((x 1)) y))) | (m a a)", "((lambda (.1) .1) (quote 1))"}, {"(syntax-rules () ((_ y) (let ((a 1)) y))) | (m a)", "((lambda (.1) a) (quote 1))"}, {"(syntax-rules () ((_ a b) (let ((tmp a)) (set! a b) (set! b tmp)))) | (lambda (tmp other) (m tmp other))", "(lambda (.1 .2) ((lambda (.3) (begin (set! .1 .2) (set! .2 .3))) .1))"},
	}) {
		text, use := cut(c.text)
		for _, bound := range []string{"(define-syntax m " + text + ") ", "(define-syntax mac (syntax-rules () ((_ n r) (define-syntax n r)))) (mac m " + text + ") "} {
			pairs{{bound + use, c.want}}.hold(t)
		}
		for _, around := range []string{"(let-syntax ((m " + text + ")) " + use + ")", "(letrec-syntax ((m " + text + ")) " + use + ")", "(let-syntax () (define-syntax m " + text + ") " + use + ")"} {
			pairs{{around, c.want}}.hold(t)
		}
	}
}

// Macros that bring in macros: the ellipsis and the underscore are these there, too.
func TestMacrosOfMacros(t *testing.T) {
	pairs{
		{"(define-syntax mac (syntax-rules () ((_ n g) (define-syntax n (syntax-rules () ((_ x (... ...)) (g x (... ...)))))))) (mac m f) (m 1 2)", "(f (quote 1) (quote 2))"},
		{"(define-syntax mac (syntax-rules ooo () ((_ n g) (define-syntax n (syntax-rules () ((_ x ...) (g x ...))))))) (mac m f) (m 1 2)", "(f (quote 1) (quote 2))"},
		{"(define-syntax mac (syntax-rules () ((_ n g) (define-syntax n (syntax-rules ooo () ((_ x ooo) (g x ooo))))))) (mac m f) (m 1 2)", "(f (quote 1) (quote 2))"},
		{"(define-syntax mac (syntax-rules () ((_ n) (define-syntax n (syntax-rules () ((n _ _) 1)))))) (mac m) (m 5 6)", "(quote 1)"},
		{"(define-syntax mac (syntax-rules () ((_ n v) (define-syntax n (syntax-rules () ((_ x) '(x v (... (... ...))))))))) (mac m a) (m b)", "(quote (b a ...))"},
		{"(define-syntax mac (syntax-rules () ((_ n v) (define-syntax n (syntax-rules () ((_ x) (quote (x v))))))))  (mac m a) (m b)", "(quote (b a))"},
		{"(define-syntax mac (syntax-rules () ((_ n x) (define-syntax n (syntax-rules () ((_ y) (lambda (x y tmp) (f x y tmp)))))))) (mac m tmp) (m tmp)", "(lambda (.1 .2 .3) (f .1 .2 .3))"},
		{"(define-syntax mac (syntax-rules () ((_ n) (define-syntax n (syntax-rules (q) ((_ q) 1) ((_ x) 2)))))) (mac m) (f (m q) (m r))", "(f (quote 1) (quote 2))"},
		{"(define-syntax mac (syntax-rules (q) ((_ q) 1) ((_ x) 2))) (define-syntax m (syntax-rules () ((_) (mac q)))) (f (m) (lambda (q) (m)) (lambda (q) (mac q)))", "(f (quote 1) (lambda (.1) (quote 1)) (lambda (.2) (quote 2)))"},
		{"(define-syntax m (syntax-rules () ((_ x) (let-syntax ((n (syntax-rules () ((_ y) (f x y z))))) (lambda (x z) (n x)))))) (lambda (a) (m a))", "(lambda (.1) (lambda (.2 .3) (f .1 .2 z)))"},
		{"(let ((x 1)) (define-syntax m (syntax-rules () ((_) x))) (let ((x 2)) (define-syntax n (syntax-rules () ((_) (f (m) x)))) (let ((x 3)) (g (m) (n) x))))", "((lambda (.1) ((lambda (.2) ((lambda (.3) (g .1 (f .1 .2) .3)) (quote 3))) (quote 2))) (quote 1))"},
	}.hold(t)
}

// What the macros of the prelude come to.
func TestPreludeMacros(t *testing.T) {
	const undefined = "(if (quote #f) (quote #f))"
	pairs{
		{"(let () 1)", "((lambda () (quote 1)))"}, {"(let ((x 1) (y x)) x y)", "((lambda (.1 .2) (begin .1 .2)) (quote 1) x)"}, {"(let loop ((i 0)) (loop i))", "(((lambda () ((lambda (.1) (begin (set! .1 (lambda (.2) (.1 .2))) ((lambda () .1)))) #undef))) (quote 0))"},
		{"(letrec ((f (lambda () g)) (g 1)) f)", "((lambda () ((lambda (.1 .2) (begin (set! .1 (lambda () .2)) (set! .2 (quote 1)) ((lambda () .1)))) #undef #undef)))"}, {"(let* () 1)", "((lambda () (quote 1)))"}, {"(let* ((x 1) (x x)) x)", "((lambda (.1) ((lambda (.2) ((lambda () .2))) .1)) (quote 1))"},
		{"(and)", "(quote #t)"}, {"(and a)", "a"}, {"(and a b c)", "(if a (if b c (quote #f)) (quote #f))"}, {"(or)", "(quote #f)"}, {"(or a)", "a"}, {"(or a b c)", "((lambda (.1) (if .1 .1 ((lambda (.2) (if .2 .2 c)) b))) a)"},
		{"(when a b)", "(if a (begin b))"}, {"(when a b c)", "(if a (begin b c))"}, {"(unless a b c)", "(if a " + undefined + " (begin b c))"},
		{"(cond)", undefined}, {"(cond (else a b))", "(begin a b)"}, {"(cond (a) (b c))", "((lambda (.1) (if .1 .1 (if b (begin c) " + undefined + "))) a)"}, {"(cond (a => f) (else b))", "((lambda (.1) (if .1 (f .1) (begin b))) a)"}, {"(lambda (else) (cond (else 1)))", "(lambda (.1) (if .1 (begin (quote 1)) " + undefined + "))"}, {"(lambda (=>) (cond (a => f)))", "(lambda (.1) (if a (begin .1 f) " + undefined + "))"},
		{"(case x)", undefined}, {"(case x (else a b))", "(begin a b)"}, {"(case x ((1 a) b c) (() d))", "(if (memv x (quote (1 a))) (begin b c) (if (memv x (quote ())) (begin d) " + undefined + "))"}, {"(case (g t) ((1) t))", "((lambda (.1) (if (memv .1 (quote (1))) (begin t) " + undefined + ")) (g t))"}, {"(lambda (memv) (case memv ((1) memv)))", "(lambda (.1) (if (memv .1 (quote (1))) (begin .1) " + undefined + "))"},
		{"(do ((i 0 (g i)) (j 1 j)) (i) j)", "(((lambda () ((lambda (.1) (begin (set! .1 (lambda (.2 .3) (if .2 (begin " + undefined + ") (begin .3 (.1 (g .2) .3))))) ((lambda () .1)))) #undef))) (quote 0) (quote 1))"}, {"(do () (a b c))", "(((lambda () ((lambda (.1) (begin (set! .1 (lambda () (if a (begin " + undefined + " b c) (begin (.1))))) ((lambda () .1)))) #undef))))"}, {"(lambda (loop) (do () (loop)))", "(lambda (.1) (((lambda () ((lambda (.2) (begin (set! .2 (lambda () (if .1 (begin " + undefined + ") (begin (.2))))) ((lambda () .2)))) #undef)))))"},
		{"`a", "(quote a)"}, {"`()", "(quote ())"}, {"`,a", "a"}, {"`(a ,b . c)", "(cons (quote a) (cons b (quote c)))"}, {"`(,@a b)", "(append a (cons (quote b) (quote ())))"}, {"`((,a) . ,b)", "(cons (cons a (quote ())) b)"}, {"`#(,a)", "(quote #((unquote a)))"}, {"(lambda (cons) `(,cons))", "(lambda (.1) (cons .1 (quote ())))"}, {"(lambda (unquote) `(,a))", "(lambda (.1) (cons (cons (quote unquote) (cons (quote a) (quote ()))) (quote ())))"},
	}.hold(t)
}

// cut is a case's text ahead of its bar, and behind it.
func cut(text string) (ahead, behind string) {
	for i := range len(text) {
		if text[i] == '|' {
			return text[:i], text[i+1:]
		}
	}
	return text, ""
}

// Systems know nothing of one another.
func TestApart(t *testing.T) {
	one, other := expand.New(), expand.New()
	for _, d := range data("(define or 1) (define-syntax m (syntax-rules () ((_) 1)))") {
		one.Expand(d)
	}
	for _, c := range []struct {
		s          *expand.System
		text, want string
	}{{one, "(or 1)", "(or (quote 1))"}, {other, "(or 1)", "(quote 1)"}, {one, "(m)", "(quote 1)"}, {other, "(m)", "(m)"}} {
		if got := last(c.s, c.text); got != c.want {
			t.Errorf("%s: %s, want %s", c.text, got, c.want)
		}
	}
}
