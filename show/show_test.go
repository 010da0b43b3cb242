package show_test

import (
	"errors"
	"strconv"
	"strings"
	"testing"

	"spindle/api"
	"spindle/read"
	"spindle/show"
)

const (
	minInt = -1 << 63
	maxInt = 1<<63 - 1
)

// isForm tells whether an error is api.ErrForm and no other kind, with neither a place nor a name.
func isForm(e error) bool {
	var at api.At
	var about api.About
	if errors.As(e, &at) || errors.As(e, &about) {
		return false
	}
	for k := api.ErrNil; k <= api.ErrUndefined; k++ {
		if errors.Is(e, k) != (k == api.ErrForm) {
			return false
		}
	}
	return true
}

func num(n int) api.Datum               { return api.Datum{Kind: api.DInt, N: n} }
func truth(n int) api.Datum             { return api.Datum{Kind: api.DBool, N: n} }
func char(n int) api.Datum              { return api.Datum{Kind: api.DChar, N: n} }
func str(s string) api.Datum            { return api.Datum{Kind: api.DStr, Text: s} }
func sym(s string) api.Datum            { return api.Datum{Kind: api.DSym, Text: s} }
func list(items ...api.Datum) api.Datum { return api.Datum{Kind: api.DList, Items: items} }
func dot(items ...api.Datum) api.Datum  { return api.Datum{Kind: api.DDot, Items: items} }
func vec(items ...api.Datum) api.Datum  { return api.Datum{Kind: api.DVec, Items: items} }

// times are n data, all the same.
func times(n int, d api.Datum) []api.Datum {
	items := make([]api.Datum, n)
	for i := range items {
		items[i] = d
	}
	return items
}

// nest is n data within one another, of which d is the innermost one.
func nest(n int, d api.Datum) api.Datum {
	for range n - 1 {
		d = list(d)
	}
	return d
}

// byteText is a text of one byte.
func byteText(n int) string { return string([]byte{byte(n)}) }

// shows holds what Write and Display answer of a datum.
func shows(t *testing.T, d api.Datum, written, displayed string) {
	t.Helper()
	if got, e := show.Write(d); got != written || e != nil {
		t.Errorf("Write = %.200q, %v; want %.200q", got, e, written)
	}
	if got, e := show.Display(d); got != displayed || e != nil {
		t.Errorf("Display = %.200q, %v; want %.200q", got, e, displayed)
	}
}

// showsWithin holds that of a datum by itself, and within others.
func showsWithin(t *testing.T, d api.Datum, written, displayed string) {
	t.Helper()
	shows(t, d, written, displayed)
	shows(t, list(d), "("+written+")", "("+displayed+")")
	shows(t, list(d, num(1), d), "("+written+" 1 "+written+")", "("+displayed+" 1 "+displayed+")")
	shows(t, vec(d, d), "#("+written+" "+written+")", "#("+displayed+" "+displayed+")")
	shows(t, dot(d, num(1)), "("+written+" . 1)", "("+displayed+" . 1)")
	shows(t, dot(num(1), vec(d)), "(1 . #("+written+"))", "(1 . #("+displayed+"))")
	if d.Kind != api.DList && d.Kind != api.DDot {
		shows(t, dot(num(1), d, d), "(1 "+written+" . "+written+")", "(1 "+displayed+" . "+displayed+")")
	}
}

// same holds that Write and Display tell one text of a datum, by itself and within others.
func same(t *testing.T, d api.Datum, want string) {
	t.Helper()
	showsWithin(t, d, want, want)
}

// refuses holds that neither tells anything of a datum that isn't right.
func refuses(t *testing.T, d api.Datum) {
	t.Helper()
	if got, e := show.Write(d); got != "" || !isForm(e) {
		t.Errorf("Write of a datum of kind %d = %.80q, %#v; want form", d.Kind, got, e)
	}
	if got, e := show.Display(d); got != "" || !isForm(e) {
		t.Errorf("Display of a datum of kind %d = %.80q, %#v; want form", d.Kind, got, e)
	}
}

// P9.1: numbers, truth values and symbols are written and displayed alike.
func TestPlainData(t *testing.T) {
	for _, c := range []struct {
		n    int
		want string
	}{{0, "0"}, {1, "1"}, {-1, "-1"}, {10, "10"}, {-12, "-12"}, {1000000, "1000000"}, {1<<60 - 1, "1152921504606846975"}, {-1 << 60, "-1152921504606846976"}, {-1<<60 + 1, "-1152921504606846975"}} {
		same(t, num(c.n), c.want)
	}
	for n := -1200; n <= 1200; n++ {
		shows(t, num(n), strconv.Itoa(n), strconv.Itoa(n))
	}
	same(t, truth(0), "#f")
	same(t, truth(1), "#t")
	for _, s := range []string{"a", "x1", "1+", "+", "-", "...", "..", "@", "@a", `\`, `a\b`, `\n`, "|a|", "{}[]", "list->vector", "quote", "set!", "A", "nul", "space", strings.Repeat("a", 60), strings.Repeat("9", 31)} {
		same(t, sym(s), s)
	}
}

// P9.1: strings: their bytes within marks, or the bytes alone.
func TestStrings(t *testing.T) {
	for _, c := range []struct{ s, written string }{
		{"", `""`}, {"a", `"a"`}, {"a b", `"a b"`}, {`a"b`, `"a\"b"`}, {`"`, `"\""`}, {`\`, `"\\"`}, {"\n", `"\n"`}, {"\t", `"\t"`}, {`\n`, `"\\n"`}, {`\"`, `"\\\""`}, {`"\`, `"\"\\"`}, {"\n\t\\\"", `"\n\t\\\""`},
		{"\r\x00\v\x7f", "\"\r\x00\v\x7f\""}, {"é", "\"é\""}, {"\xff\xc3", "\"\xff\xc3\""}, {"(a . b) ; c' #t", `"(a . b) ; c' #t"`}, {"\n\n", `"\n\n"`}, {" ", `" "`}, {"'", `"'"`},
		{strings.Repeat("a", 500), `"` + strings.Repeat("a", 500) + `"`}, {strings.Repeat("\n", 500), `"` + strings.Repeat(`\n`, 500) + `"`}, {strings.Repeat(`"`, 500), `"` + strings.Repeat(`\"`, 500) + `"`}, {strings.Repeat("\xff", 500), `"` + strings.Repeat("\xff", 500) + `"`},
	} {
		showsWithin(t, str(c.s), c.written, c.s)
	}
	marked := map[int]string{10: `\n`, 9: `\t`, 92: `\\`, 34: `\"`}
	for i := range 256 {
		written := byteText(i)
		if m := marked[i]; m != "" {
			written = m
		}
		showsWithin(t, str(byteText(i)), `"`+written+`"`, byteText(i))
		showsWithin(t, str("a"+byteText(i)+"b"), `"a`+written+`b"`, "a"+byteText(i)+"b")
		showsWithin(t, str(byteText(i)+byteText(i)), `"`+written+written+`"`, byteText(i)+byteText(i))
	}
}

// charText is a character as P9.2 has it.
func charText(n int) string {
	if name := map[int]string{32: "space", 10: "newline", 9: "tab", 0: "nul"}[n]; name != "" {
		return `#\` + name
	}
	return `#\` + byteText(n)
}

// P9.1, P9.2: characters: Char's text, or the byte alone.
func TestCharacters(t *testing.T) {
	for i := range 256 {
		showsWithin(t, char(i), charText(i), byteText(i))
	}
	shows(t, char('a'), `#\a`, "a")
	shows(t, char(32), `#\space`, " ")
	shows(t, char(200), "#\\\xc8", "\xc8")
}

// P9.2: a character's text, and none of what is no character.
func TestChar(t *testing.T) {
	for _, c := range []struct {
		n    int
		want string
	}{{0, `#\nul`}, {9, `#\tab`}, {10, `#\newline`}, {32, `#\space`}, {'a', `#\a`}, {'(', `#\(`}, {'"', `#\"`}, {'\\', `#\\`}, {13, "#\\\r"}, {1, "#\\\x01"}, {127, "#\\\x7f"}, {128, "#\\\x80"}, {255, "#\\\xff"}} {
		if got := show.Char(c.n); got != c.want {
			t.Errorf("Char(%d) = %q; want %q", c.n, got, c.want)
		}
	}
	for n := -1100; n <= 1100; n++ {
		want := ""
		if n >= 0 && n <= 255 {
			want = charText(n)
		}
		if got := show.Char(n); got != want {
			t.Errorf("Char(%d) = %q; want %q", n, got, want)
		}
	}
	for _, n := range []int{minInt, minInt + 32, -1 << 32, 1 << 32, 1<<32 + 97, 1<<16 + 97, maxInt} {
		if got := show.Char(n); got != "" {
			t.Errorf("Char(%d) = %q; want no text", n, got)
		}
	}
}

// P9.1: lists, lists with a full stop, and vectors; quote and its kin have no texts of their own.
func TestRows(t *testing.T) {
	a, b, c := sym("a"), sym("b"), sym("c")
	for _, x := range []struct {
		d    api.Datum
		want string
	}{
		{list(), "()"}, {list(a), "(a)"}, {list(a, b), "(a b)"}, {list(a, b, c), "(a b c)"}, {list(list()), "(())"}, {list(list(), list()), "(() ())"}, {list(list(a), b), "((a) b)"}, {list(a, list(b, list(c))), "(a (b (c)))"},
		{dot(num(1), num(2)), "(1 . 2)"}, {dot(a, b, c), "(a b . c)"}, {dot(list(), a), "(() . a)"}, {dot(a, vec()), "(a . #())"}, {dot(a, vec(b, c)), "(a . #(b c))"}, {dot(dot(a, b), c), "((a . b) . c)"}, {dot(dot(a, b), dot(b, c), c), "((a . b) (b . c) . c)"}, {dot(list(a, b), truth(0)), "((a b) . #f)"},
		{vec(), "#()"}, {vec(a), "#(a)"}, {vec(num(1), num(2)), "#(1 2)"}, {vec(vec(), list(), dot(a, b)), "#(#() () (a . b))"}, {list(vec(a), vec()), "(#(a) #())"},
		{list(sym("quote"), a), "(quote a)"}, {list(sym("quasiquote"), a), "(quasiquote a)"}, {list(sym("unquote"), a), "(unquote a)"}, {list(sym("unquote-splicing"), a), "(unquote-splicing a)"}, {list(sym("quote"), list(sym("quote"), a)), "(quote (quote a))"}, {dot(a, sym("quote"), b), "(a quote . b)"}, {list(a, sym("quote"), b), "(a quote b)"},
		{list(num(-1), truth(1), truth(0), a, list(), vec()), "(-1 #t #f a () #())"},
	} {
		same(t, x.d, x.want)
	}
	shows(t, list(str("a b"), char('a'), char(10), str("")), `("a b" #\a #\newline "")`, "(a b a \n )")
	shows(t, dot(str(`"`), str("\t")), `("\"" . "\t")`, "(\" . \t)")
	shows(t, vec(char(')'), list(str("\\"), dot(char(0), char('(')))), `#(#\) ("\\" (#\nul . #\()))`, "#() (\\ (\x00 . ()))")
}

// P9.1: what is right at its bounds has a text.
func TestBounds(t *testing.T) {
	a := sym("a")
	deep := func(open, inner, end string) string {
		return strings.Repeat(open, 63) + inner + strings.Repeat(end, 63)
	}
	shows(t, nest(64, a), deep("(", "a", ")"), deep("(", "a", ")"))
	shows(t, nest(64, list()), deep("(", "()", ")"), deep("(", "()", ")"))
	shows(t, nest(64, str("a")), deep("(", `"a"`, ")"), deep("(", "a", ")"))
	dotted := a
	for range 63 {
		dotted = dot(dotted, char('b'))
	}
	shows(t, dotted, deep("(", "a", ` . #\b)`), deep("(", "a", " . b)"))
	as := strings.Repeat(" a", 3998)
	shows(t, list(times(3999, a)...), "(a"+as+")", "(a"+as+")")
	shows(t, vec(times(3999, a)...), "#(a"+as+")", "#(a"+as+")")
	shows(t, dot(times(3999, a)...), "(a"+as[2:]+" . a)", "(a"+as[2:]+" . a)")
	long := strings.Repeat("\\", 500)
	shows(t, list(times(3999, str(long))...), `("`+long+long+strings.Repeat(`" "`+long+long, 3998)+`")`, "("+long+strings.Repeat(" "+long, 3998)+")")
}

// P9.1: what read.Check refuses has no text, wherever it stands.
func TestWrongData(t *testing.T) {
	a := sym("a")
	for _, d := range []api.Datum{
		{}, {N: 1}, {Kind: -1}, {Kind: 9}, {Kind: 14}, {Kind: maxInt}, {Kind: minInt}, {Text: "a"}, {Items: []api.Datum{a}},
		num(1 << 60), num(-1<<60 - 1), num(maxInt), num(minInt), {Kind: api.DInt, Text: "1"}, {Kind: api.DInt, Items: []api.Datum{a}},
		truth(2), truth(-1), {Kind: api.DBool, Text: "#t"}, {Kind: api.DBool, N: 1, Items: []api.Datum{a}},
		char(-1), char(256), char(256 + 97), char(minInt), {Kind: api.DChar, N: 97, Text: "a"}, {Kind: api.DChar, Items: []api.Datum{a}},
		str(strings.Repeat("a", 501)), {Kind: api.DStr, N: 1}, {Kind: api.DStr, Text: "a", Items: []api.Datum{a}},
		sym(""), sym("."), sym("12"), sym("-1"), sym("a b"), sym("#t"), sym("("), sym("é"), sym(strings.Repeat("a", 61)), {Kind: api.DSym, N: 1, Text: "a"}, {Kind: api.DSym, Text: "a", Items: []api.Datum{a}},
		{Kind: api.DList, N: 1}, {Kind: api.DList, Text: "a"}, {Kind: api.DVec, N: 1}, {Kind: api.DVec, Text: "a"}, {Kind: api.DDot, N: 1, Items: []api.Datum{a, a}}, {Kind: api.DDot, Text: "a", Items: []api.Datum{a, a}},
		dot(), dot(a), dot(a, list()), dot(a, list(a)), dot(a, dot(a, a)), dot(a, a, list()),
		nest(65, a), nest(65, list()), nest(5000, a), nest(1<<16, a), list(times(4000, a)...), vec(times(1<<16, a)...), dot(times(4000, a)...),
	} {
		refuses(t, d)
		refuses(t, list(d))
		refuses(t, list(a, d, a))
		refuses(t, vec(a, d))
		refuses(t, dot(d, a))
		refuses(t, dot(a, d))
		refuses(t, list(list(vec(dot(a, d, a)))))
	}
}

// P9.1: data that go round, or have their parts many times over, are refused soon.
func TestEndlessData(t *testing.T) {
	round := list(sym("a"), list())
	round.Items[1].Items = round.Items
	refuses(t, round)
	doubled := list()
	for range 60 {
		doubled = list(doubled, doubled)
	}
	refuses(t, doubled)
	refuses(t, vec(doubled, round))
	// Parts that are shared are written each time that they stand there.
	shared := list()
	for range 10 {
		shared = list(shared, shared)
	}
	if got, e := show.Write(shared); e != nil || len(got) != 2*(1<<11-1)+1<<10-1 {
		t.Errorf("Write of shared parts: %d bytes, %v", len(got), e)
	}
}

// P9.1: nil and an empty list are one.
func TestEmptyItems(t *testing.T) {
	none := []api.Datum{}
	for _, c := range []struct {
		d                  api.Datum
		written, displayed string
	}{
		{api.Datum{Kind: api.DInt, N: 7, Items: none}, "7", "7"}, {api.Datum{Kind: api.DBool, Items: none}, "#f", "#f"}, {api.Datum{Kind: api.DChar, N: 'a', Items: none}, `#\a`, "a"}, {api.Datum{Kind: api.DStr, Items: none}, `""`, ""}, {api.Datum{Kind: api.DSym, Text: "a", Items: none}, "a", "a"},
		{api.Datum{Kind: api.DList, Items: none}, "()", "()"}, {api.Datum{Kind: api.DList}, "()", "()"}, {api.Datum{Kind: api.DVec, Items: none}, "#()", "#()"}, {api.Datum{Kind: api.DVec}, "#()", "#()"},
	} {
		showsWithin(t, c.d, c.written, c.displayed)
	}
	refuses(t, api.Datum{Kind: api.DDot, Items: none})
}

// P9.1: what is handed in stays as it is, its spare room too, and the same is told of it again.
func TestNothingIsChanged(t *testing.T) {
	spare := []api.Datum{dot(str("a\n"), char(' ')), vec(num(1), sym("b")), str("spare"), num(2)}
	d := api.Datum{Kind: api.DList, Items: spare[:2]}
	for range 3 {
		shows(t, d, `(("a\n" . #\space) #(1 b))`, "((a\n .  ) #(1 b))")
	}
	shows(t, list(spare...), `(("a\n" . #\space) #(1 b) "spare" 2)`, "((a\n .  ) #(1 b) spare 2)")
	if read.Check(d) != nil || cap(d.Items) != 4 || len(d.Items) != 2 {
		t.Errorf("the datum is another one now: %v", d)
	}
}
