package show_test

import (
	"reflect"
	"strings"
	"testing"

	"spindle/api"
	"spindle/lex"
	"spindle/read"
	"spindle/show"
)

// dice are numbers that come the same way each time.
type dice uint64

func (d *dice) below(n int) int {
	*d = *d*6364136223846793005 + 1442695040888963407
	return int(uint64(*d) >> 33 % uint64(n))
}

// datum is some right datum, whose characters are read as they are written.
func (d *dice) datum(depth int) api.Datum {
	kinds := 8
	if depth == 0 {
		kinds = 5
	}
	switch 1 + d.below(kinds) {
	case api.DInt:
		return num([]int{0, 1, -1, 42, 1<<60 - 1, -1 << 60, d.below(1 << 30)}[d.below(7)])
	case api.DBool:
		return truth(d.below(2))
	case api.DChar:
		return char([]int{0, 9, 10, 32, '(', ')', '"', ';', '\\', '\'', 32 + d.below(224)}[d.below(11)])
	case api.DStr:
		s := make([]byte, d.below(6))
		for i := range s {
			s[i] = byte(d.below(256))
			if d.below(2) == 0 {
				s[i] = "\n\t\\\"nt'()#;, "[d.below(13)]
			}
		}
		return str(string(s))
	case api.DList:
		if d.below(3) == 0 {
			return list(sym([]string{"quote", "quasiquote", "unquote", "unquote-splicing"}[d.below(4)]), d.datum(depth-1))
		}
		return list(d.data(d.below(5), depth-1)...)
	case api.DDot:
		last := vec(d.data(d.below(3), depth-1)...)
		if d.below(2) == 0 {
			last = d.datum(0)
		}
		return dot(append(d.data(1+d.below(3), depth-1), last)...)
	case api.DVec:
		return vec(d.data(d.below(4), depth-1)...)
	}
	return sym([]string{"a", "quote", "...", "+", "list->vector", "unquote", "..", "@", `\`, `\n`}[d.below(10)])
}

func (d *dice) data(n, depth int) []api.Datum {
	items := make([]api.Datum, n)
	for i := range items {
		items[i] = d.datum(depth)
	}
	return items
}

// tokens are those of which a datum's text is made.
func tokens(d api.Datum) []api.Token {
	var all []api.Token
	switch d.Kind {
	case api.DInt:
		return []api.Token{{Kind: api.TInt, N: d.N}}
	case api.DBool:
		return []api.Token{{Kind: api.TBool, N: d.N}}
	case api.DChar:
		return []api.Token{{Kind: api.TChar, N: d.N}}
	case api.DStr:
		return []api.Token{{Kind: api.TStr, Text: d.Text}}
	case api.DSym:
		return []api.Token{{Kind: api.TSym, Text: d.Text}}
	case api.DVec:
		all = append(all, api.Token{Kind: api.TVector})
	default:
		all = append(all, api.Token{Kind: api.TOpen})
	}
	for i, item := range d.Items {
		if d.Kind == api.DDot && i == len(d.Items)-1 {
			all = append(all, api.Token{Kind: api.TDot})
		}
		all = append(all, tokens(item)...)
	}
	return append(all, api.Token{Kind: api.TClose})
}

// isOpen tells whether a token begins a row.
func isOpen(t api.Token) bool { return t.Kind == api.TOpen || t.Kind == api.TVector }

// isPlain tells whether a text is made of just these tokens, with a blank between any two, but behind what begins a row and ahead of its end.
func isPlain(text string, want []api.Token) bool {
	at := 0
	for i, w := range want {
		if i > 0 && !isOpen(want[i-1]) && w.Kind != api.TClose {
			if !strings.HasPrefix(text[at:], " ") {
				return false
			}
			at++
		}
		// Where blanks stand ahead of a token, its place tells.
		got, e := lex.Next(text, at, 1, 1)
		if e != nil || got.Kind != w.Kind || got.N != w.N || got.Text != w.Text || got.Line != 1 || got.Col != 1 {
			return false
		}
		at = got.Next
	}
	return at == len(text)
}

// bare is a datum of whose strings and characters Display says what Write says of it: each is a symbol of its bytes, where that may be.
func bare(d api.Datum) (api.Datum, bool) {
	switch d.Kind {
	case api.DStr:
		return sym(d.Text), lex.Symbol(d.Text)
	case api.DChar:
		return sym(byteText(d.N)), lex.Symbol(byteText(d.N))
	}
	ok := true
	items := make([]api.Datum, len(d.Items))
	for i, item := range d.Items {
		one, okOne := bare(item)
		items[i], ok = one, ok && okOne
	}
	d.Items = items
	return d, ok
}

// emptied is a datum without lists of nothing that aren't nil.
func emptied(d api.Datum) api.Datum {
	if len(d.Items) == 0 {
		d.Items = nil
		return d
	}
	items := make([]api.Datum, len(d.Items))
	for i, item := range d.Items {
		items[i] = emptied(item)
	}
	d.Items = items
	return d
}

// isReadAgain holds that a datum's text is its tokens, plainly parted, and that it is read as it was.
func isReadAgain(t *testing.T, d api.Datum) {
	t.Helper()
	text, e := show.Write(d)
	if e != nil {
		t.Fatalf("Write of %v: %v", d, e)
	}
	if !isPlain(text, tokens(d)) {
		t.Fatalf("Write: %q is not made of the tokens %v", text, tokens(d))
	}
	got, e := read.All(text)
	if e != nil || len(got) != 1 || !reflect.DeepEqual(emptied(got[0]), emptied(d)) {
		t.Fatalf("All(%q) = %v, %v; want %v", text, got, e, d)
	}
	if one, next, e := read.One(text, 0, 1, 1); e != nil || next != len(text) || !reflect.DeepEqual(emptied(one), emptied(d)) {
		t.Fatalf("One(%q) = %v, %d, %v; want %v", text, one, next, e, d)
	}
}

// P9.1, P9.3: scattered data, shallow and deep.
func TestScatteredData(t *testing.T) {
	d := dice(29)
	for range 20000 {
		isReadAgain(t, d.datum(d.below(6)))
	}
	for range 300 {
		x := d.datum(3)
		for range 58 {
			switch d.below(4) {
			case 0:
				x = vec(x, d.datum(0))
			case 1:
				x = dot(d.datum(0), x, d.datum(0))
			default:
				x = list(x)
			}
		}
		isReadAgain(t, x)
	}
}

// P9.1, P9.3: each character of which that is promised, and each byte of a string, in all kinds of rows.
func TestEachByteIsReadAgain(t *testing.T) {
	for i := range 256 {
		all := []api.Datum{str(byteText(i)), str(byteText(i) + "n"), str("\\" + byteText(i)), str(byteText(i) + `"`)}
		if i == 0 || i == 9 || i == 10 || i >= 32 {
			all = append(all, char(i))
		}
		for _, d := range all {
			for _, x := range []api.Datum{d, list(d), list(d, d), vec(d, d), dot(d, d), dot(d, d, d), list(vec(d), list(d))} {
				isReadAgain(t, x)
			}
		}
	}
}

// P9.3: data whose texts have just so many bytes, or tokens, or are as deep, as may be.
func TestLongestTexts(t *testing.T) {
	a := sym("a")
	isReadAgain(t, nest(64, a))
	isReadAgain(t, nest(64, list()))
	isReadAgain(t, list(times(3998, a)...))
	isReadAgain(t, vec(times(3998, a)...))
	isReadAgain(t, dot(times(3997, a)...))
	isReadAgain(t, list(times(1999, list())...))
	// 33 strings that take 493 bytes within their marks leave room for a short one.
	for _, s := range []string{strings.Repeat("b", 493), "b" + strings.Repeat(`\`, 246)} {
		d := list(times(33, str(s))...)
		text, _ := show.Write(d)
		rest := 1<<14 - len(text)
		d.Items = append(d.Items, str(strings.Repeat("c", rest-3)))
		if text, _ = show.Write(d); len(text) != 1<<14 {
			t.Fatalf("the text has %d bytes; want %d", len(text), 1<<14)
		}
		isReadAgain(t, d)
	}
}

// P9.1: Display differs from Write in strings and characters alone.
func TestDisplayAsWrite(t *testing.T) {
	d := dice(31)
	held := 0
	for range 50000 {
		x := d.datum(d.below(5))
		symbols, ok := bare(x)
		if !ok {
			continue
		}
		held++
		want, e := show.Write(symbols)
		if e != nil {
			t.Fatalf("Write of %v: %v", symbols, e)
		}
		if got, e := show.Display(x); got != want || e != nil {
			t.Fatalf("Display of %v = %q, %v; want %q", x, got, e, want)
		}
	}
	if held < 5000 {
		t.Errorf("only %d data were looked at", held)
	}
}
