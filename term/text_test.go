package term_test

import (
	"slices"
	"strconv"
	"strings"
	"testing"

	"spindle/api"
	"spindle/term"
)

// tells holds a term's text.
func tells(t *testing.T, x api.Term, want string) {
	t.Helper()
	if got, e := term.Text(x); got != want || e != nil {
		t.Errorf("Text = %.300q, %v; want %.300q", got, e, want)
	}
}

// tellsWithin holds it of a term by itself, and within others.
func tellsWithin(t *testing.T, x api.Term, want string) {
	t.Helper()
	a := global("a")
	tells(t, x, want)
	tells(t, assign("b", x), "(set! b "+want+")")
	tells(t, define("b", x), "(define b "+want+")")
	tells(t, cond(x, a), "(if "+want+" a)")
	tells(t, cond(a, x), "(if a "+want+")")
	tells(t, cond(a, x, a), "(if a "+want+" a)")
	tells(t, cond(a, a, x), "(if a a "+want+")")
	tells(t, lambda(nil, x), "(lambda () "+want+")")
	tells(t, begin(x), "(begin "+want+")")
	tells(t, begin(a, x, a), "(begin a "+want+" a)")
	tells(t, call(x), "("+want+")")
	tells(t, call(a, x), "(a "+want+")")
	tells(t, call(x, a, a), "("+want+" a a)")
}

// P10.4: each kind's text.
func TestText(t *testing.T) {
	a, b := global("a"), global("b")
	for _, c := range []struct {
		t    api.Term
		want string
	}{
		{quote(num(1)), "(quote 1)"}, {quote(num(-12)), "(quote -12)"}, {quote(sym("a")), "(quote a)"}, {quote(list()), "(quote ())"}, {quote(list(sym("a"), str("b\n"), vec())), `(quote (a "b\n" #()))`}, {quote(dot(sym("a"), num(2))), "(quote (a . 2))"}, {quote(str("a b")), `(quote "a b")`}, {quote(str("")), `(quote "")`},
		{quote(api.Datum{Kind: api.DBool}), "(quote #f)"}, {quote(api.Datum{Kind: api.DBool, N: 1}), "(quote #t)"}, {quote(api.Datum{Kind: api.DChar, N: 'a'}), `(quote #\a)`}, {quote(api.Datum{Kind: api.DChar, N: 32}), `(quote #\space)`}, {quote(list(sym("quote"), sym("a"))), "(quote (quote a))"}, {quote(sym("#void"[1:])), "(quote void)"},
		{void(), "#void"}, {undef(), "#undef"}, {a, "a"}, {global("..."), "..."}, {global("set!"), "set!"}, {global(".1"), ".1"}, {global(strings.Repeat("x", 60)), strings.Repeat("x", 60)},
		{assign("a", b), "(set! a b)"}, {define("a", b), "(define a b)"}, {assign("a", void()), "(set! a #void)"}, {define("a", undef()), "(define a #undef)"}, {cond(a, b), "(if a b)"}, {cond(a, b, a), "(if a b a)"}, {begin(a), "(begin a)"}, {begin(a, b), "(begin a b)"}, {begin(b, a, b), "(begin b a b)"},
		{call(a), "(a)"}, {call(a, b), "(a b)"}, {call(a, b, quote(num(1)), a), "(a b (quote 1) a)"}, {call(call(call(a))), "(((a)))"}, {begin(begin(begin(a))), "(begin (begin (begin a)))"},
		{call(global("+"), quote(num(1)), quote(num(2))), "(+ (quote 1) (quote 2))"}, {cond(cond(a, b), cond(a, b, a)), "(if (if a b) (if a b a))"}, {call(times(29, a)...), "(a" + strings.Repeat(" a", 28) + ")"},
		{define("f", assign("g", begin(void(), undef()))), "(define f (set! g (begin #void #undef)))"},
	} {
		tellsWithin(t, c.t, c.want)
	}
}

// P10.4: procedures and their locals, as Alpha numbers them.
func TestTextOfLocals(t *testing.T) {
	a, b := global("a"), global("b")
	for _, c := range []struct {
		t    api.Term
		want string
	}{
		{lambda(ints(7, 3), local(3)), "(lambda (.1 .2) .2)"}, {lambda(nil, a), "(lambda () a)"}, {lambda(ints(1), local(1)), "(lambda (.1) .1)"}, {lambda(ints(5), local(5)), "(lambda (.1) .1)"}, {lambda(ints(3, 2, 1), local(2)), "(lambda (.1 .2 .3) .2)"},
		{rest(ints(1), local(1)), "(lambda .1 .1)"}, {rest(ints(8), a), "(lambda .1 a)"}, {rest(ints(1, 2), local(2)), "(lambda (.1 . .2) .2)"}, {rest(ints(9, 8, 7), local(9)), "(lambda (.1 .2 . .3) .1)"}, {rest(ints(4, 3, 2, 1), set(1, a)), "(lambda (.1 .2 .3 . .4) (set! .4 a))"},
		{lambda(ints(2), set(2, local(2))), "(lambda (.1) (set! .1 .1))"}, {lambda(ints(4), set(4, void())), "(lambda (.1) (set! .1 #void))"}, {lambda(ints(6), begin(local(6))), "(lambda (.1) (begin .1))"},
		{lambda(ints(9), lambda(ints(8), call(local(9), local(8)))), "(lambda (.1) (lambda (.2) (.1 .2)))"}, {lambda(ints(9), rest(ints(8), local(9))), "(lambda (.1) (lambda .2 .1))"}, {rest(ints(3), rest(ints(2, 1), call(local(1), local(2), local(3)))), "(lambda .1 (lambda (.2 . .3) (.3 .2 .1)))"},
		{call(lambda(ints(1), cond(local(1), local(1), b)), a), "((lambda (.1) (if .1 .1 b)) a)"}, {lambda(ints(2), call(lambda(ints(1), cond(local(1), local(1), local(2))), quote(api.Datum{Kind: api.DBool}))), "(lambda (.1) ((lambda (.2) (if .2 .2 .1)) (quote #f)))"},
		{begin(lambda(ints(2), local(2)), lambda(ints(1), local(1))), "(begin (lambda (.1) .1) (lambda (.2) .2))"}, {call(lambda(ints(5, 6), begin(set(5, lambda(ints(7), local(6))), call(local(5)))), undef(), undef()), "((lambda (.1 .2) (begin (set! .1 (lambda (.3) .2)) (.1))) #undef #undef)"},
		{lambda(ints(1), call(global(".1"), local(1))), "(lambda (.1) (.1 .1))"}, {lambda(ints(2), assign(".2", local(2))), "(lambda (.1) (set! .2 .1))"}, {lambda(nil, lambda(nil, lambda(ints(maxInt), local(maxInt)))), "(lambda () (lambda () (lambda (.1) .1)))"},
	} {
		tellsWithin(t, c.t, c.want)
	}
	for n := 1; n <= 24; n++ {
		var names []string
		for i := range n {
			names = append(names, "."+strconv.Itoa(i+1))
		}
		last := names[n-1]
		tellsWithin(t, lambda(upTo(31, 30+n), local(30+n)), "(lambda ("+strings.Join(names, " ")+") "+last+")")
		if n > 1 {
			names[n-1] = ". " + last
			tellsWithin(t, rest(upTo(31, 30+n), local(30+n)), "(lambda ("+strings.Join(names, " ")+") "+last+")")
		}
	}
}

// P10.4: as deep, and as many parts, as may be.
func TestLongTexts(t *testing.T) {
	a := global("a")
	x, open, end := local(1000), ".1", ""
	for range 199 - 1 {
		x, open, end = begin(x), "(begin "+open, end+")"
	}
	tells(t, lambda(ints(1000), x), "(lambda (.1) "+open+end+")")
	x, open = local(1), ".199"
	for n := 199; n >= 1; n-- {
		x, open = lambda(ints(200-n), x), "(lambda (."+strconv.Itoa(n)+") "+open+")"
	}
	tells(t, x, open)
	tells(t, begin(times(3999, a)...), "(begin"+strings.Repeat(" a", 3999)+")")
	long := str(strings.Repeat("\\", 500))
	tells(t, begin(times(3999, quote(long))...), "(begin"+strings.Repeat(` (quote "`+strings.Repeat(`\\`, 500)+`")`, 3999)+")")
}

// P10.3: the names of globals, each once, rising.
func TestGlobals(t *testing.T) {
	a, b, c := global("a"), global("b"), global("c")
	for _, x := range []struct {
		t    api.Term
		want string
	}{
		{a, "a"}, {assign("a", b), "a b"}, {define("b", a), "a b"}, {assign("z", void()), "z"}, {define("z", void()), "z"}, {void(), ""}, {undef(), ""}, {quote(sym("a")), ""}, {quote(list(sym("a"), list(sym("b")))), ""}, {lambda(ints(1), local(1)), ""}, {lambda(ints(1), set(1, local(1))), ""},
		{cond(c, b, a), "a b c"}, {cond(b, a), "a b"}, {begin(b, a, b, a), "a b"}, {call(c, a, c, b), "a b c"}, {lambda(ints(1), call(b, local(1), a)), "a b"}, {lambda(ints(1), set(1, a)), "a"}, {define("a", assign("a", a)), "a"}, {assign("c", define("b", a)), "a b c"},
		{call(global("z"), global("Z"), global("aa"), global("a"), global("+"), global("..."), global("1+"), global("~"), global("!"), global("a-b"), global("ab"), global("A")), "! + ... 1+ A Z a a-b aa ab z ~"},
		{call(global("a9"), global("a10"), global("a1"), global("a"), global("b"), global("_")), "_ a a1 a10 a9 b"},
		{begin(lambda(ints(1), begin(lambda(ints(2), define("d", local(1))), c)), call(lambda(nil, assign("b", a)))), "a b c d"}, {begin(define("a", void()), a, assign("a", a)), "a"}, {global("lambda"), "lambda"}, {begin(quote(sym("q")), global("quote")), "quote"},
	} {
		if got := strings.Join(term.Globals(x.t), " "); got != x.want {
			t.Errorf("Globals of %v: %s; want %s", x.t, got, x.want)
		}
		for i, y := range around(x.t)[1:] {
			got := term.Globals(y)
			for _, name := range strings.Fields(x.want) {
				if !slices.Contains(got, name) {
					t.Errorf("Globals of %v (%d) lack %s", y, i, name)
				}
			}
			if !slices.IsSorted(got) || len(slices.Compact(slices.Clone(got))) != len(got) {
				t.Errorf("Globals of %v (%d) = %v: unsorted, or twice", y, i, got)
			}
		}
	}
	var many []api.Term
	for i := range 3999 {
		many = append(many, global("g"+strconv.Itoa(7919*i%1000)))
	}
	if got := term.Globals(begin(many...)); len(got) != 1000 || !slices.IsSorted(got) {
		t.Errorf("Globals: %d names", len(got))
	}
}

// P10.3: what is answered is new memory.
func TestGlobalsAreNew(t *testing.T) {
	x := begin(global("b"), global("a"), global("b"))
	got := term.Globals(x)
	for i := range got[:cap(got)] {
		got[:cap(got)][i] = "changed"
	}
	if again := strings.Join(term.Globals(x), " "); again != "a b" {
		t.Errorf("Globals: %s", again)
	}
}
