package read_test

import (
	"errors"
	"strings"
	"testing"

	"spindle/api"
	"spindle/read"
)

const (
	minInt = -1 << 63
	maxInt = 1<<63 - 1
	most   = 1 << 30 // the last line, and the last column, where a token may be asked for
)

// is tells whether an error is just the kind that is asked for, and no other one; 0: there is none.
func is(e error, want api.Kind) bool {
	if want == 0 {
		return e == nil
	}
	for k := api.ErrNil; k <= api.ErrUndefined; k++ {
		if errors.Is(e, k) != (k == want) {
			return false
		}
	}
	return true
}

// isAt tells whether an error is that kind with that place, and just so when it is unwrapped.
func isAt(e error, want api.Kind, line, col int) bool {
	var at api.At
	return is(e, want) && errors.As(e, &at) && at.Line == line && at.Col == col && errors.Unwrap(e) == error(want)
}

// isBare tells whether an error is that kind, without a place.
func isBare(e error, want api.Kind) bool {
	var at api.At
	return is(e, want) && !errors.As(e, &at)
}

func num(n int) api.Datum               { return api.Datum{Kind: api.DInt, N: n} }
func truth(n int) api.Datum             { return api.Datum{Kind: api.DBool, N: n} }
func char(n int) api.Datum              { return api.Datum{Kind: api.DChar, N: n} }
func str(s string) api.Datum            { return api.Datum{Kind: api.DStr, Text: s} }
func sym(s string) api.Datum            { return api.Datum{Kind: api.DSym, Text: s} }
func list(items ...api.Datum) api.Datum { return api.Datum{Kind: api.DList, Items: items} }
func dot(items ...api.Datum) api.Datum  { return api.Datum{Kind: api.DDot, Items: items} }
func vec(items ...api.Datum) api.Datum  { return api.Datum{Kind: api.DVec, Items: items} }

// same tells whether two data are alike; nil and an empty list are one.
func same(a, b api.Datum) bool {
	if a.Kind != b.Kind || a.N != b.N || a.Text != b.Text {
		return false
	}
	return sameAll(a.Items, b.Items)
}

func sameAll(a, b []api.Datum) bool {
	if len(a) != len(b) {
		return false
	}
	for i := range a {
		if !same(a[i], b[i]) {
			return false
		}
	}
	return true
}

// none tells whether there is nothing in a datum.
func none(d api.Datum) bool { return same(d, api.Datum{}) }

// reads holds what One answers of a text from its beginning on: a datum, up to its last byte that isn't left.
func reads(t *testing.T, text string, left int, want api.Datum) {
	t.Helper()
	got, next, e := read.One(text, 0, 1, 1)
	if e != nil || next != len(text)-left || !same(got, want) {
		t.Errorf("One(%.80q) = %.80s, %d, %v; want %.80s, %d", text, plain(got), next, e, plain(want), len(text)-left)
	}
}

// fails holds that One and All refuse a text, and where.
func fails(t *testing.T, text string, want api.Kind, line, col int) {
	t.Helper()
	failsOne(t, text, want, line, col)
	if got, e := read.All(text); got != nil || !isAt(e, want, line, col) {
		t.Errorf("All(%.80q) has %d data, %#v; want %v at %d:%d", text, len(got), e, want, line, col)
	}
}

// failsOne holds that One refuses a text, and where.
func failsOne(t *testing.T, text string, want api.Kind, line, col int) {
	t.Helper()
	if got, next, e := read.One(text, 0, 1, 1); !none(got) || next != 0 || !isAt(e, want, line, col) {
		t.Errorf("One(%.80q) = %.80s, %d, %#v; want %v at %d:%d", text, plain(got), next, e, want, line, col)
	}
}

// P8.1: what a single token is.
func TestSingleTokens(t *testing.T) {
	for _, c := range []struct {
		text string
		want api.Datum
	}{
		{"0", num(0)}, {"-12", num(-12)}, {"+007", num(7)}, {"1152921504606846975", num(1<<60 - 1)}, {"-1152921504606846976", num(-1 << 60)},
		{"#t", truth(1)}, {"#f", truth(0)},
		{`#\a`, char('a')}, {`#\nul`, char(0)}, {`#\space`, char(32)}, {"#\\\xff", char(255)}, {`#\(`, char('(')}, {`#\)`, char(')')},
		{`""`, str("")}, {`"a b"`, str("a b")}, {`"\n\t\\\""`, str("\n\t\\\"")}, {`"(a"`, str("(a")}, {`"` + strings.Repeat("a", 500) + `"`, str(strings.Repeat("a", 500))},
		{"a", sym("a")}, {"...", sym("...")}, {"1+", sym("1+")}, {"quote", sym("quote")}, {strings.Repeat("a", 60), sym(strings.Repeat("a", 60))},
	} {
		reads(t, c.text, 0, c.want)
		reads(t, " ;(\n\t"+c.text, 0, c.want)
		for _, behind := range []string{" ", " b", ")", "(", "\n", ";", " #x", " \"", "'"} {
			reads(t, c.text+behind, len(behind), c.want)
		}
	}
}

// P8.1: lists, lists with a full stop, vectors, and the marks.
func TestRowsAndMarks(t *testing.T) {
	a, b, c := sym("a"), sym("b"), sym("c")
	for _, x := range []struct {
		text string
		want api.Datum
	}{
		{"()", list()}, {"( )", list()}, {"(;)\n)", list()}, {"(a)", list(a)}, {"(a b)", list(a, b)}, {"(())", list(list())}, {"((a) b)", list(list(a), b)}, {"(a(b)c)", list(a, list(b), c)}, {"(()())", list(list(), list())},
		{"(1 #t #\\a \"s\" x)", list(num(1), truth(1), char('a'), str("s"), sym("x"))},
		{"#()", vec()}, {"#(1 2)", vec(num(1), num(2))}, {"#(a #(b) (c))", vec(a, vec(b), list(c))}, {"(#())", list(vec())}, {"#(())", vec(list())},
		{"(a . b)", dot(a, b)}, {"(a b . c)", dot(a, b, c)}, {"((a . b) . c)", dot(dot(a, b), c)}, {"(a . 1)", dot(a, num(1))}, {"(a . \"s\")", dot(a, str("s"))}, {"(a . #t)", dot(a, truth(1))},
		{"(a . #(b))", dot(a, vec(b))}, {"(a . #())", dot(a, vec())}, {"(() . a)", dot(list(), a)}, {"#((a . b))", vec(dot(a, b))}, {"(a .;\nb)", dot(a, b)}, {"(a .(b))", list(a, b)},
		{"'a", list(sym("quote"), a)}, {"`a", list(sym("quasiquote"), a)}, {",a", list(sym("unquote"), a)}, {",@a", list(sym("unquote-splicing"), a)},
		{"' a", list(sym("quote"), a)}, {"'\n;x\na", list(sym("quote"), a)}, {"''a", list(sym("quote"), list(sym("quote"), a))}, {"'()", list(sym("quote"), list())}, {"'#(a)", list(sym("quote"), vec(a))}, {"'(a b)", list(sym("quote"), list(a, b))},
		{"`(a ,b ,@c)", list(sym("quasiquote"), list(a, list(sym("unquote"), b), list(sym("unquote-splicing"), c)))}, {"(a 'b c)", list(a, list(sym("quote"), b), c)}, {"#('a)", vec(list(sym("quote"), a))}, {",`',@1", list(sym("unquote"), list(sym("quasiquote"), list(sym("quote"), list(sym("unquote-splicing"), num(1)))))},
		{"(' a . b)", dot(list(sym("quote"), a), b)}, {"'(a . (b))", list(sym("quote"), list(a, b))},
	} {
		reads(t, x.text, 0, x.want)
		for _, behind := range []string{" ", ")", "(", "\n", ";", " #x", " . a", "\"", "'"} {
			reads(t, x.text+behind, len(behind), x.want)
		}
	}
}

// P8.1: a list behind a full stop is joined to what stands ahead of it.
func TestJoinedLists(t *testing.T) {
	a, b, c, d := sym("a"), sym("b"), sym("c"), sym("d")
	for _, x := range []struct {
		text string
		want api.Datum
	}{
		{"(a . ())", list(a)}, {"(a b . ())", list(a, b)}, {"(a . (b))", list(a, b)}, {"(a . (b c))", list(a, b, c)}, {"(a b . (c d))", list(a, b, c, d)},
		{"(a . (b . (c . (d . ()))))", list(a, b, c, d)}, {"(a . (b . c))", dot(a, b, c)}, {"(a b . (c . d))", dot(a, b, c, d)}, {"(a . (b . (c . d)))", dot(a, b, c, d)},
		{"(a . (b c . d))", dot(a, b, c, d)}, {"(a . (b . #(c)))", dot(a, b, vec(c))}, {"((a . ()) . ())", list(list(a))}, {"(() . ())", list(list())}, {"((a) . (b))", list(list(a), b)}, {"(a . ((b)))", list(a, list(b))},
		{"(a . 'b)", list(a, sym("quote"), b)}, {"(a . ,b)", list(a, sym("unquote"), b)}, {"(a . ,@b)", list(a, sym("unquote-splicing"), b)}, {"(a . `b)", list(a, sym("quasiquote"), b)}, {"(a . '(b . c))", list(a, sym("quote"), dot(b, c))},
		{"#((a . (b)))", vec(list(a, b))}, {"'(a . (b . c))", list(sym("quote"), dot(a, b, c))},
	} {
		reads(t, x.text, 0, x.want)
		reads(t, x.text+")", 1, x.want)
	}
}

// P8.1: tokens that may not stand where they stand.
func TestSyntaxErrors(t *testing.T) {
	for _, c := range []struct {
		text string
		col  int
	}{
		{")", 1}, {".", 1}, {"  )", 3}, {". a", 1}, {"(. a)", 2}, {"(.)", 2}, {"( . a)", 3}, {"(a .)", 5}, {"(a . )", 6}, {"(a . b c)", 8}, {"(a . b . c)", 8}, {"(a . . b)", 6}, {"(a . b (c))", 8}, {"(a . b #(c))", 8}, {"(a . b 'c)", 8}, {"(a . b ,@c)", 8}, {"(a . () b)", 9}, {"(a . (b) c)", 10},
		{"')", 2}, {"'.", 2}, {"`)", 2}, {",)", 2}, {",@)", 3}, {"(')", 3}, {"(a ')", 5}, {"('. a)", 3}, {"(a . ')", 7}, {"(a . '.", 7}, {"' . a", 3},
		{"#(. a)", 3}, {"#(a . b)", 5}, {"#(a . (b))", 5}, {"#(.)", 3}, {"(#(a . b))", 6}, {"((. a))", 3}, {"(a (. b))", 5}, {"(a . (. b))", 7}, {"(a . #(b . c))", 10}, {"(a . b #t)", 8}, {"(a . b \"\")", 8},
	} {
		fails(t, c.text, api.ErrSyntax, 1, c.col)
		fails(t, "\n;x\n"+c.text+" #x", api.ErrSyntax, 3, c.col)
	}
	// Where a datum is whole, what stands behind it isn't looked at; All goes on there.
	reads(t, "(a))", 1, list(sym("a")))
	reads(t, "a . b", 4, sym("a"))
	for _, c := range []struct {
		text string
		col  int
	}{{"(a))", 4}, {"a . b", 3}, {"a b )", 5}, {"'a ')", 5}, {"() #(a . b)", 8}} {
		if got, e := read.All(c.text); got != nil || !isAt(e, api.ErrSyntax, 1, c.col) {
			t.Errorf("All(%q) has %d data, %#v; want syntax at 1:%d", c.text, len(got), e, c.col)
		}
	}
}

// P8.1: texts that end amid a datum: all beginnings of a text, but those of nothing or of a whole datum.
func TestTextsThatEnd(t *testing.T) {
	for _, text := range []string{"(a", "(", "#(", "'", "`", ",", ",@", "(a .", "(a . b", "(a . (b)", "(a . b ", "((a)", "(a (b", "#(a", "#((a)", "('", "(a '", "(a . '", "''", "'(a", "(a ;)", "( ;", "'#(", "(((((", "(a . (b . (c)"} {
		fails(t, text, api.ErrEnd, 1, len(text)+1)
		fails(t, "\n"+text+" ;x\n  ", api.ErrEnd, 3, 3)
	}
	whole := "(a #(b 'c) ,@d . (e . f))"
	reads(t, whole, 0, dot(sym("a"), vec(sym("b"), list(sym("quote"), sym("c"))), list(sym("unquote-splicing"), sym("d")), sym("e"), sym("f")))
	for n := 1; n < len(whole); n++ {
		if text := whole[:n]; strings.HasSuffix(text, "#") {
			fails(t, text, api.ErrSyntax, 1, n)
		} else {
			fails(t, text, api.ErrEnd, 1, n+1)
		}
	}
}

// P8.1: no datum begins; All has none then.
func TestTextsOfNothing(t *testing.T) {
	for _, c := range []struct {
		text      string
		line, col int
	}{{"", 1, 1}, {" ", 1, 2}, {"\n\n ", 3, 2}, {";", 1, 2}, {"; (a)", 1, 6}, {";a\n", 2, 1}, {" \t\r\n;b\n;", 3, 2}} {
		failsOne(t, c.text, api.ErrEnd, c.line, c.col)
		if got, e := read.All(c.text); got != nil || e != nil {
			t.Errorf("All(%q) has %d data, %v", c.text, len(got), e)
		}
	}
}

// P8.1: the errors of lex.Next, where their token is met, ahead of what comes later and behind what came sooner.
func TestErrorsOfTokens(t *testing.T) {
	long := `"` + strings.Repeat("a", 501) + `"`
	for _, c := range []struct {
		text      string
		want      api.Kind
		line, col int
	}{
		{"#x", api.ErrSyntax, 1, 1}, {"a#b", api.ErrSyntax, 1, 1}, {"(a #x", api.ErrSyntax, 1, 4}, {"(a\n  b#)", api.ErrSyntax, 2, 3}, {"'#", api.ErrSyntax, 1, 2}, {"(a . #x)", api.ErrSyntax, 1, 6}, {"(a . b #x)", api.ErrSyntax, 1, 8}, {"(\"\\q\"", api.ErrSyntax, 1, 2},
		{"1152921504606846976", api.ErrOverflow, 1, 1}, {"(a\n -1152921504606846977)", api.ErrOverflow, 2, 2}, {"#(99999999999999999999", api.ErrOverflow, 1, 3}, {"(a . b 99999999999999999999)", api.ErrOverflow, 1, 8},
		{"\"a", api.ErrEnd, 1, 1}, {"(a \"b)\n", api.ErrEnd, 1, 4}, {"(a . \"", api.ErrEnd, 1, 6}, {"(a . b \"", api.ErrEnd, 1, 8}, {"'\n\"\\", api.ErrEnd, 2, 1},
		{long, api.ErrLong, 1, 1}, {"(a\n" + long, api.ErrLong, 2, 1},
		{") #x", api.ErrSyntax, 1, 1}, {"(. 99999999999999999999)", api.ErrSyntax, 1, 2}, {"(99999999999999999999 . )", api.ErrOverflow, 1, 2},
	} {
		fails(t, c.text, c.want, c.line, c.col)
	}
}

// P8.1: One goes on from a place, and tells places from those that it was told.
func TestOneFromAPlace(t *testing.T) {
	text := "a (b\n \"c\nd\" e) ;f\n'g ("
	for _, c := range []struct {
		at, line, col int
		want          api.Datum
		next          int
	}{
		{0, 1, 1, sym("a"), 1}, {1, 1, 2, list(sym("b"), str("c\nd"), sym("e")), 14}, {2, 7, 8, list(sym("b"), str("c\nd"), sym("e")), 14}, {3, 1, 4, sym("b"), 4}, {4, 1, 5, str("c\nd"), 11},
		{11, 3, 3, sym("e"), 13}, {14, 3, 6, list(sym("quote"), sym("g")), 20}, {19, 4, 2, sym("g"), 20}, {15, 900, 70, list(sym("quote"), sym("g")), 20},
		{0, most, most, sym("a"), 1}, {18, most, 1, list(sym("quote"), sym("g")), 20}, {17, 1, most, list(sym("quote"), sym("g")), 20},
	} {
		got, next, e := read.One(text, c.at, c.line, c.col)
		if e != nil || next != c.next || !same(got, c.want) {
			t.Errorf("One(%q, %d, %d, %d) = %s, %d, %v; want %s, %d", text, c.at, c.line, c.col, plain(got), next, e, plain(c.want), c.next)
		}
	}
	for _, c := range []struct {
		text              string
		at, line, col     int
		want              api.Kind
		wantLine, wantCol int
	}{
		{text, 13, 3, 5, api.ErrSyntax, 3, 5}, {text, 20, 4, 3, api.ErrEnd, 4, 5}, {text, 22, 4, 5, api.ErrEnd, 4, 5}, {text, 20, 50, 60, api.ErrEnd, 50, 62}, {text, 21, 50, 60, api.ErrEnd, 50, 61},
		{"a (\"\n\n\" \"b\n\" . . c)", 1, 20, 30, api.ErrSyntax, 23, 5}, {"a (\n\n b . c\n d)", 1, 20, 30, api.ErrSyntax, 23, 2}, {"a (\n\n #x", 1, 20, 30, api.ErrSyntax, 22, 2}, {"(a\n;b\n", 0, 20, 30, api.ErrEnd, 22, 1},
	} {
		got, next, e := read.One(c.text, c.at, c.line, c.col)
		if !none(got) || next != 0 || !isAt(e, c.want, c.wantLine, c.wantCol) {
			t.Errorf("One(%q, %d, %d, %d) = %s, %d, %#v; want %v at %d:%d", c.text, c.at, c.line, c.col, plain(got), next, e, c.want, c.wantLine, c.wantCol)
		}
	}
}

// P8.1: places that are none, also in texts that are wrong.
func TestPlacesThatAreNone(t *testing.T) {
	refuses := func(text string, at, line, col int) {
		t.Helper()
		if got, next, e := read.One(text, at, line, col); !none(got) || next != 0 || !isBare(e, api.ErrRange) {
			t.Errorf("One(%q, %d, %d, %d) = %s, %d, %#v; want range, without a place", text, at, line, col, plain(got), next, e)
		}
	}
	for _, text := range []string{"", "a", ")", "#x", "(a b)"} {
		n := len(text)
		for _, at := range []int{minInt, -1, n + 1, n + 2, maxInt} {
			refuses(text, at, 1, 1)
		}
		for _, x := range []int{minInt, -1, 0, most + 1, maxInt} {
			refuses(text, 0, x, 1)
			refuses(text, 0, 1, x)
			refuses(text, n, x, x)
		}
	}
}

// within is a datum's text behind so many of the tokens that stand ahead of it.
func within(n int, open, inner, end string) string {
	return strings.Repeat(open, n) + inner + strings.Repeat(end, n)
}

// P8.1: 64 data may be within one another, by the tokens that begin them.
func TestDepth(t *testing.T) {
	for _, c := range []struct {
		open, end string
		first     int // where the first thing within begins
	}{{"(", ")", 1}, {"#(", ")", 2}, {"'", "", 1}, {"`", "", 1}, {",", "", 1}, {",@", "", 2}, {"( ", " )", 2}, {"(a ", " b)", 1}, {"(a . ", ")", 1}, {"#(\"\" #() ", " #t)", 2}} {
		for _, inner := range []string{"a", "()", "#()", "1", `""`, `#\x`} {
			text := within(63, c.open, inner, c.end)
			d, next, e := read.One(text, 0, 1, 1)
			if e != nil || next != len(text) || read.Check(d) != nil {
				t.Errorf("One(%.20q..) of 64 data within one another: %d, %v", text, next, e)
			}
			for _, n := range []int{64, 65, 66, 70} {
				fails(t, within(n, c.open, inner, c.end), api.ErrLong, 1, 63*len(c.open)+c.first+1)
			}
		}
	}
	// A row of nothing is one; where it ends, no datum should begin.
	reads(t, within(64, "(", "", ")"), 0, nest(64, list()))
	reads(t, within(63, "(", "#()", ")"), 0, nest(64, vec()))
	fails(t, within(65, "(", "", ")"), api.ErrLong, 1, 65)
	// What is whole counts no more.
	reads(t, "("+strings.Repeat(within(63, "(", "", ")"), 30)+")", 0, list(times(30, nest(63, list()))...))
	fails(t, "(()()"+within(63, "(", "a", ")"), api.ErrLong, 1, 6+63)
	// By tokens, lists behind full stops are within one another, though they are joined.
	reads(t, within(63, "(a . ", "()", ")"), 0, list(times(63, sym("a"))...))
	reads(t, within(63, "(a . ", "b", ")"), 0, dot(append(times(63, sym("a")), sym("b"))...))
}

// P8.1: of what begins within too many, ErrLong is told ahead of ErrSyntax, and behind the text's end and the errors of lex.Next.
func TestErrorsWithinMany(t *testing.T) {
	for _, open := range []string{"(", "#(", "'", "`", ",", ",@"} {
		opened := strings.Repeat(open, 64)
		at := len(opened) + 1
		fails(t, opened+".", api.ErrLong, 1, at)
		fails(t, opened+".)", api.ErrLong, 1, at)
		fails(t, opened, api.ErrEnd, 1, at)
		fails(t, opened+" \n", api.ErrEnd, 2, 1)
		fails(t, opened+" \"a", api.ErrEnd, 1, at+1)
		fails(t, opened+"#x", api.ErrSyntax, 1, at)
		fails(t, opened+"99999999999999999999", api.ErrOverflow, 1, at)
		fails(t, opened+"\""+strings.Repeat("a", 501)+"\"", api.ErrLong, 1, at)
		fails(t, opened[len(open):]+".", api.ErrSyntax, 1, at-len(open))
	}
	for _, mark := range []string{"'", "`", ",", ",@"} {
		fails(t, strings.Repeat(mark, 64)+")", api.ErrLong, 1, 64*len(mark)+1)
		fails(t, strings.Repeat(mark, 63)+")", api.ErrSyntax, 1, 63*len(mark)+1)
		fails(t, strings.Repeat("(", 63)+mark+")", api.ErrLong, 1, 64+len(mark))
		fails(t, strings.Repeat("(", 62)+mark+")", api.ErrSyntax, 1, 63+len(mark))
	}
	fails(t, strings.Repeat("(", 62)+"#(a . b)", api.ErrSyntax, 1, 67)
	fails(t, strings.Repeat("(", 63)+"#(. b)", api.ErrLong, 1, 66)
	// Behind what stands behind a full stop no datum should begin.
	fails(t, strings.Repeat("(", 62)+"(a . b c)", api.ErrSyntax, 1, 70)
	fails(t, strings.Repeat("(", 62)+"(a . b (c))", api.ErrSyntax, 1, 70)
}

// nest is n data within one another, of which d is the innermost one.
func nest(n int, d api.Datum) api.Datum {
	for range n - 1 {
		d = list(d)
	}
	return d
}

// times are n data, all the same.
func times(n int, d api.Datum) []api.Datum {
	items := make([]api.Datum, n)
	for i := range items {
		items[i] = d
	}
	return items
}

// P8.1: a datum may begin with the 4000th token, and with none behind it.
func TestManyTokens(t *testing.T) {
	as := func(n int) string { return strings.Repeat("a ", n) }
	a := sym("a")
	reads(t, "("+as(3999)+")", 0, list(times(3999, a)...))
	reads(t, "#("+as(3999)+") b", 2, vec(times(3999, a)...))
	reads(t, "("+as(3998)+"())", 0, list(append(times(3998, a), list())...))
	reads(t, "(("+as(3998)+"))", 0, list(list(times(3998, a)...)))
	reads(t, "("+as(3997)+". b)", 0, dot(append(times(3997, a), sym("b"))...))
	reads(t, "("+strings.Repeat("()", 1999)+"b)", 0, list(append(times(1999, list()), sym("b"))...))
	reads(t, "("+strings.Repeat("'a ", 1999)+"b)", 0, list(append(times(1999, list(sym("quote"), a)), sym("b"))...))
	for _, c := range []struct {
		text string
		col  int
	}{
		{"(" + as(4000) + ")", 2*3999 + 2}, {"(" + as(5000), 2*3999 + 2}, {"#(" + as(4000) + ")", 2*3999 + 3}, {"(" + as(3999) + "())", 2*3999 + 2}, {"(" + as(3999) + "'b)", 2*3999 + 2}, {"(" + as(3998) + "'b)", 2*3998 + 3},
		{"(" + as(3998) + ". b)", 2*3998 + 4}, {"(" + as(3999) + ". b)", 2*3999 + 4}, {"(" + as(3998) + "(b)", 2*3998 + 3}, {"(" + strings.Repeat("()", 2000) + "b)", 2*2000 + 2}, {"(" + strings.Repeat("'a ", 2000) + "b)", 3*1999 + 3},
		// ahead of what may not stand there
		{"#(" + as(3999) + ". b)", 2*3999 + 3}, {"(" + as(3998) + "')", 2*3998 + 3}, {"(" + as(3998) + "'.", 2*3998 + 3}, {"(" + as(3998) + ". )", 2*3998 + 4}, {"(" + as(3998) + ". .", 2*3998 + 4}, {"(" + as(3998) + "(. b)", 2*3998 + 3},
	} {
		fails(t, c.text, api.ErrLong, 1, c.col)
	}
	// where no datum should begin, what may not stand there is told
	fails(t, "("+as(3997)+". b c)", api.ErrSyntax, 1, 2*3997+6)
	fails(t, "("+as(3997)+". b . c)", api.ErrSyntax, 1, 2*3997+6)
	fails(t, "("+as(3999), api.ErrEnd, 1, 2*3999+2)
	fails(t, "("+as(3999)+".", api.ErrEnd, 1, 2*3999+3)
	fails(t, "("+as(3998)+"'", api.ErrEnd, 1, 2*3998+3)
	fails(t, "("+as(3999)+"#x", api.ErrSyntax, 1, 2*3999+2)
	fails(t, "("+as(3999)+"\"", api.ErrEnd, 1, 2*3999+2)
	// Each datum of a text is counted by itself, and blanks are no tokens.
	got, e := read.All(strings.Repeat("a ", 5000))
	if e != nil || !sameAll(got, times(5000, a)) {
		t.Errorf("5000 data: %d, %v", len(got), e)
	}
	got, e = read.All("(" + as(3999) + ")(" + as(3999) + ")")
	if e != nil || !sameAll(got, times(2, list(times(3999, a)...))) {
		t.Errorf("two lists of 3999: %d, %v", len(got), e)
	}
	reads(t, "("+strings.Repeat(" ;a\n", 5000)+strings.Repeat(" ", 5000)+"a)", 0, list(a))
}

// P8.2: all data of a text.
func TestAll(t *testing.T) {
	a := sym("a")
	for _, c := range []struct {
		text string
		want []api.Datum
	}{
		{"", nil}, {" ;a\n", nil}, {"a", []api.Datum{a}}, {"a b", []api.Datum{a, sym("b")}}, {"()()", []api.Datum{list(), list()}}, {"(a)a'a #(a)\"a\"\"a\"#\\a ;a", []api.Datum{list(a), a, list(sym("quote"), a), vec(a), str("a"), str("a"), char('a')}},
		{"(define (f . x)\n  `(,@x . 1)) ; f\n\n(f 2)\n", []api.Datum{
			list(sym("define"), dot(sym("f"), sym("x")), list(sym("quasiquote"), dot(list(sym("unquote-splicing"), sym("x")), num(1)))),
			list(sym("f"), num(2)),
		}},
	} {
		if got, e := read.All(c.text); e != nil || !sameAll(got, c.want) {
			t.Errorf("All(%q) = %s, %v; want %s", c.text, plain(list(got...)), e, plain(list(c.want...)))
		}
	}
}

// P8.2: the first error is told, with its place in the whole text, and no data are.
func TestErrorsOfAll(t *testing.T) {
	for _, c := range []struct {
		text      string
		want      api.Kind
		line, col int
	}{
		{"a b )", api.ErrSyntax, 1, 5}, {"a\n(b\n. c d)", api.ErrSyntax, 3, 5}, {"a \"\n\" (b", api.ErrEnd, 2, 5}, {"a (b\n", api.ErrEnd, 2, 1}, {"a ) 99999999999999999999", api.ErrSyntax, 1, 3}, {"a 99999999999999999999 )", api.ErrOverflow, 1, 3},
		{"(a)\n\n ''", api.ErrEnd, 3, 4}, {"a #x", api.ErrSyntax, 1, 3}, {"a \"b", api.ErrEnd, 1, 3}, {"()\n" + strings.Repeat("(", 70), api.ErrLong, 2, 65}, {strings.Repeat("a\n", 1<<13-1) + " )", api.ErrSyntax, 1 << 13, 2},
		{"a \n" + within(65, "(", "", ")") + ")", api.ErrLong, 2, 65},
	} {
		if got, e := read.All(c.text); got != nil || !isAt(e, c.want, c.line, c.col) {
			t.Errorf("All(%.80q) has %d data, %#v; want %v at %d:%d", c.text, len(got), e, c.want, c.line, c.col)
		}
	}
}

// P8.2: a text is as long as may be, or longer; what stands in it is not looked at then.
func TestLongTexts(t *testing.T) {
	const size = 1 << 14
	for _, c := range []struct {
		text string
		want int
	}{
		{strings.Repeat("()", size/2), size / 2}, {strings.Repeat("a ", size/2), size / 2}, {strings.Repeat("\n", size), 0}, {";" + strings.Repeat(")", size-1), 0}, {strings.Repeat("\n", size-1) + "a", 1},
	} {
		if got, e := read.All(c.text); len(got) != c.want || e != nil {
			t.Errorf("All(%.20q..) has %d data, %v; want %d", c.text, len(got), e, c.want)
		}
	}
	for _, text := range []string{strings.Repeat("a ", size), strings.Repeat(" ", size+1), ")" + strings.Repeat(" ", size), strings.Repeat("(", size+1), "#x" + strings.Repeat(" ", size)} {
		if got, e := read.All(text); got != nil || !isBare(e, api.ErrLong) {
			t.Errorf("All(%.20q..) has %d data, %#v; want long, without a place", text, len(got), e)
		}
	}
	// One has no such bound.
	blanks := strings.Repeat(" ", 3*size)
	reads(t, blanks+"(a"+blanks+")"+blanks, 3*size, list(sym("a")))
}

// P8.1, P8.2: what is answered is new: no two lists of it share memory, not even their spare room.
func TestAnswersAreNew(t *testing.T) {
	text := "(a (b c . (d e)) . (f #(g) . (h 'i `(j . (k . l)))))"
	want, _, _ := read.One(text, 0, 1, 1)
	for range 2 {
		d, _, e := read.One(text, 0, 1, 1)
		if e != nil || !same(d, want) {
			t.Fatalf("One(%q) = %s, %v", text, plain(d), e)
		}
		spoilSpare(d)
		if !same(d, want) {
			t.Errorf("lists of %q share memory: %s", text, plain(d))
		}
		d.Items[0], d.Items[1].Items[0] = num(1), num(2)
		d.Items[5].Items[1] = num(3)
	}
	all, _ := read.All(text + text)
	all[0].Items[1].Items[0] = num(1)
	if !same(all[1], want) {
		t.Errorf("data of one text share memory: %s", plain(all[1]))
	}
}

// spoilSpare puts something into the spare room of all of a datum's lists.
func spoilSpare(d api.Datum) {
	spare := d.Items[len(d.Items):cap(d.Items)]
	for i := range spare {
		spare[i] = str("spoilt")
	}
	for _, item := range d.Items {
		spoilSpare(item)
	}
}
