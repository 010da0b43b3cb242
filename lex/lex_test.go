package lex_test

import (
	"errors"
	"slices"
	"strings"
	"testing"

	"spindle/api"
	"spindle/fix"
	"spindle/lex"
)

const (
	minInt = -1 << 63
	maxInt = 1<<63 - 1
	most   = 1 << 30 // the last line, and the last column

	blanks     = " \t\n\r"
	delimiters = " \t\n\r()\";'"
)

// is tells whether an error is just the kind that is asked for, and no other one; 0: there is none.
func is(e error, want api.Kind) bool {
	if want == 0 {
		return e == nil
	}
	for k := api.ErrNil; k <= api.ErrUndefined; k++ {
		if errors.Is(e, k) != (k == want) {
			return false
		}
	}
	return true
}

// isAt tells whether an error is that kind with that place, and just so when it is unwrapped.
func isAt(e error, want api.Kind, line, col int) bool {
	var at api.At
	return is(e, want) && errors.As(e, &at) && at.Line == line && at.Col == col && errors.Unwrap(e) == error(want)
}

// reads holds what Next answers of a text from its beginning on.
func reads(t *testing.T, text string, want api.Token) {
	t.Helper()
	if got, e := lex.Next(text, 0, 1, 1); got != want || e != nil {
		t.Errorf("Next(%.80q) = %v, %v; want %v", text, got, e, want)
	}
}

// fails holds that Next refuses a text, and where.
func fails(t *testing.T, text string, want api.Kind, line, col int) {
	t.Helper()
	if got, e := lex.Next(text, 0, 1, 1); got != (api.Token{}) || !isAt(e, want, line, col) {
		t.Errorf("Next(%.80q) = %v, %#v; want %v at %d:%d", text, got, e, want, line, col)
	}
}

// refuses holds that Next refuses a place, and tells of none.
func refuses(t *testing.T, text string, at, line, col int) {
	t.Helper()
	var p api.At
	if got, e := lex.Next(text, at, line, col); got != (api.Token{}) || !is(e, api.ErrRange) || errors.As(e, &p) {
		t.Errorf("Next(%q, %d, %d, %d) = %v, %#v; want range, without a place", text, at, line, col, got, e)
	}
}

// token is one that stands at a text's beginning.
func token(kind, n int, text string, next int) api.Token {
	return api.Token{Kind: kind, N: n, Text: text, Line: 1, Col: 1, Next: next}
}

func noughts(n int) string { return strings.Repeat("0", n) }
func nines(n int) string   { return strings.Repeat("9", n) }

// P7.1: a token of each row of the table.
func TestEachToken(t *testing.T) {
	for _, c := range []struct {
		text string
		want api.Token
	}{
		{"", token(api.TEnd, 0, "", 0)},
		{"(", token(api.TOpen, 0, "", 1)}, {")", token(api.TClose, 0, "", 1)},
		{"'", token(api.TQuote, 0, "", 1)}, {"`", token(api.TQuasi, 0, "", 1)},
		{",@", token(api.TSplice, 0, "", 2)}, {",", token(api.TComma, 0, "", 1)}, {"#(", token(api.TVector, 0, "", 2)},
		{"#t", token(api.TBool, 1, "", 2)}, {"#f", token(api.TBool, 0, "", 2)},
		{`#\a`, token(api.TChar, 'a', "", 3)}, {`#\space`, token(api.TChar, 32, "", 7)}, {`#\newline`, token(api.TChar, 10, "", 9)},
		{`#\tab`, token(api.TChar, 9, "", 5)}, {`#\nul`, token(api.TChar, 0, "", 5)},
		{`""`, token(api.TStr, 0, "", 2)}, {`"a b"`, token(api.TStr, 0, "a b", 5)}, {`"a\n\t\\\"z"`, token(api.TStr, 0, "a\n\t\\\"z", 12)},
		{".", token(api.TDot, 0, "", 1)},
		{"0", token(api.TInt, 0, "", 1)}, {"-12", token(api.TInt, -12, "", 3)}, {"+007", token(api.TInt, 7, "", 4)},
		{"a", token(api.TSym, 0, "a", 1)}, {"list->vector", token(api.TSym, 0, "list->vector", 12)},
	} {
		reads(t, c.text, c.want)
	}
}

// P7.1: a token ends where the next one may begin, and no sooner.
func TestTokensEnd(t *testing.T) {
	for _, c := range []struct {
		text string
		want api.Token
	}{
		{"((", token(api.TOpen, 0, "", 1)}, {")x", token(api.TClose, 0, "", 1)}, {"'x", token(api.TQuote, 0, "", 1)}, {"``", token(api.TQuasi, 0, "", 1)},
		{",@x", token(api.TSplice, 0, "", 2)}, {",@@", token(api.TSplice, 0, "", 2)}, {",x", token(api.TComma, 0, "", 1)}, {", @", token(api.TComma, 0, "", 1)}, {",,@", token(api.TComma, 0, "", 1)},
		{"#(1", token(api.TVector, 0, "", 2)}, {"#((", token(api.TVector, 0, "", 2)}, {"#(#(", token(api.TVector, 0, "", 2)},
		{`""x`, token(api.TStr, 0, "", 2)}, {`"a""b"`, token(api.TStr, 0, "a", 3)}, {`"\\"x"`, token(api.TStr, 0, `\`, 4)}, {`"\\\""`, token(api.TStr, 0, `\"`, 6)},
		{`";"`, token(api.TStr, 0, ";", 3)}, {"\"a\n(b\"", token(api.TStr, 0, "a\n(b", 6)},
		{"a.b", token(api.TSym, 0, "a.b", 3)}, {"..", token(api.TSym, 0, "..", 2)}, {"...", token(api.TSym, 0, "...", 3)}, {".1", token(api.TSym, 0, ".1", 2)}, {".)", token(api.TDot, 0, "", 1)},
		{"1+", token(api.TSym, 0, "1+", 2)}, {"-", token(api.TSym, 0, "-", 1)}, {"+", token(api.TSym, 0, "+", 1)}, {"--1", token(api.TSym, 0, "--1", 3)}, {"1.5", token(api.TSym, 0, "1.5", 3)}, {"0x1", token(api.TSym, 0, "0x1", 3)},
		{"@a", token(api.TSym, 0, "@a", 2)}, {`a\n`, token(api.TSym, 0, `a\n`, 3)}, {"=>", token(api.TSym, 0, "=>", 2)}, {"t", token(api.TSym, 0, "t", 1)},
		{`#\((`, token(api.TChar, '(', "", 3)}, {`#\))`, token(api.TChar, ')', "", 3)}, {`#\;;x`, token(api.TChar, ';', "", 3)}, {`#\""`, token(api.TChar, '"', "", 3)}, {`#\''`, token(api.TChar, '\'', "", 3)},
		{`#\\`, token(api.TChar, '\\', "", 3)}, {`#\#`, token(api.TChar, '#', "", 3)}, {`#\,`, token(api.TChar, ',', "", 3)}, {`#\t`, token(api.TChar, 't', "", 3)}, {`#\s`, token(api.TChar, 's', "", 3)}, {`#\n`, token(api.TChar, 'n', "", 3)}, {`#\1`, token(api.TChar, '1', "", 3)},
	} {
		reads(t, c.text, c.want)
	}
	for _, d := range delimiters {
		for _, c := range []struct {
			text string
			want api.Token
		}{
			{"#t", token(api.TBool, 1, "", 2)}, {"#f", token(api.TBool, 0, "", 2)}, {`#\x`, token(api.TChar, 'x', "", 3)}, {`#\(`, token(api.TChar, '(', "", 3)},
			{`#\space`, token(api.TChar, 32, "", 7)}, {`#\nul`, token(api.TChar, 0, "", 5)},
			{".", token(api.TDot, 0, "", 1)}, {"-12", token(api.TInt, -12, "", 3)}, {"ab", token(api.TSym, 0, "ab", 2)},
		} {
			reads(t, c.text+string(d), c.want)
			reads(t, c.text+string(d)+"#x", c.want)
		}
	}
}

// P7.1: blanks ahead of a token, of all kinds, and the places behind them.
func TestBlanks(t *testing.T) {
	for _, c := range []struct {
		blanks    string
		line, col int
	}{
		{"", 1, 1}, {" ", 1, 2}, {"\t", 1, 2}, {"\r", 1, 2}, {"\n", 2, 1}, {"\r\n", 2, 1}, {"\n\r", 2, 2}, {"\n\n  ", 3, 3}, {" \t\r ", 1, 5},
		{";\n", 2, 1}, {";x\n", 2, 1}, {" ; (\"#x' ;\n\t", 2, 2}, {";a\n;b\n", 3, 1}, {";a\r\n", 2, 1}, {";a\n ;b\n   ", 3, 4}, {";\xff\x00\n", 2, 1},
	} {
		for _, k := range []struct {
			text string
			want api.Token
		}{
			{"ab c", token(api.TSym, 0, "ab", 2)}, {"(", token(api.TOpen, 0, "", 1)}, {"\"\n\"\n", token(api.TStr, 0, "\n", 3)}, {"", token(api.TEnd, 0, "", 0)},
		} {
			k.want.Line, k.want.Col, k.want.Next = c.line, c.col, k.want.Next+len(c.blanks)
			reads(t, c.blanks+k.text, k.want)
		}
		fails(t, c.blanks+"#x", api.ErrSyntax, c.line, c.col)
		fails(t, c.blanks+"\"\n", api.ErrEnd, c.line, c.col)
	}
	for _, c := range []struct {
		text      string
		line, col int
	}{{";", 1, 2}, {"; a", 1, 4}, {" ;;", 1, 4}, {"\n;a b\r", 2, 6}, {"\n\n", 3, 1}} {
		reads(t, c.text, api.Token{Kind: api.TEnd, Line: c.line, Col: c.col, Next: len(c.text)})
	}
}

// P7.1: of all bytes just four are blanks; what is none begins a token, or an error, where it stands.
func TestBytesBetweenTokens(t *testing.T) {
	for i := range 256 {
		c := string([]byte{byte(i)})
		got, e := lex.Next(c+"\n(", 0, 1, 1)
		blank := strings.Contains(blanks+";", c)
		at := got.Line*1000 + got.Col
		var p api.At
		if errors.As(e, &p) {
			at = p.Line*1000 + p.Col
		}
		if (at != 1001) != blank {
			t.Errorf("a byte %d ahead of a line feed: %v, %v", i, got, e)
		}
	}
}

// P7.1: Next goes on from a place, and tells places from those that it was told.
func TestNextFromAPlace(t *testing.T) {
	text := "(a \n bc) ;d"
	for _, c := range []struct {
		at, line, col int
		want          api.Token
	}{
		{0, 1, 1, api.Token{Kind: api.TOpen, Line: 1, Col: 1, Next: 1}},
		{1, 1, 2, api.Token{Kind: api.TSym, Text: "a", Line: 1, Col: 2, Next: 2}},
		{2, 1, 3, api.Token{Kind: api.TSym, Text: "bc", Line: 2, Col: 2, Next: 7}},
		{6, 2, 3, api.Token{Kind: api.TSym, Text: "c", Line: 2, Col: 3, Next: 7}},
		{7, 2, 4, api.Token{Kind: api.TClose, Line: 2, Col: 4, Next: 8}},
		{8, 2, 5, api.Token{Kind: api.TEnd, Line: 2, Col: 8, Next: 11}},
		{11, 2, 8, api.Token{Kind: api.TEnd, Line: 2, Col: 8, Next: 11}},
		{1, 70, 900, api.Token{Kind: api.TSym, Text: "a", Line: 70, Col: 900, Next: 2}},
		{2, 70, 900, api.Token{Kind: api.TSym, Text: "bc", Line: 71, Col: 2, Next: 7}},
		{8, most, most, api.Token{Kind: api.TEnd, Line: most, Col: most + 3, Next: 11}},
		{3, most, most, api.Token{Kind: api.TSym, Text: "bc", Line: most + 1, Col: 2, Next: 7}},
	} {
		if got, e := lex.Next(text, c.at, c.line, c.col); got != c.want || e != nil {
			t.Errorf("Next(%q, %d, %d, %d) = %v, %v; want %v", text, c.at, c.line, c.col, got, e, c.want)
		}
	}
	if got, e := lex.Next("( \n\n  #x", 1, 40, 50); got != (api.Token{}) || !isAt(e, api.ErrSyntax, 42, 3) {
		t.Errorf("an error behind blanks: %v, %#v", got, e)
	}
	if got, e := lex.Next("(  #x", 1, 40, 50); got != (api.Token{}) || !isAt(e, api.ErrSyntax, 40, 52) {
		t.Errorf("an error behind blanks: %v, %#v", got, e)
	}
}

// P7.1: places that are none, also in texts that are wrong.
func TestPlacesThatAreNone(t *testing.T) {
	for _, text := range []string{"", "a", "#x", "\"", "(a b)"} {
		n := len(text)
		for _, at := range []int{minInt, -1, n + 1, n + 2, maxInt} {
			refuses(t, text, at, 1, 1)
		}
		for _, x := range []int{minInt, -1, 0, most + 1, maxInt} {
			refuses(t, text, 0, x, 1)
			refuses(t, text, 0, 1, x)
			refuses(t, text, n, x, x)
		}
	}
	for _, x := range []int{1, 2, most - 1, most} {
		for _, y := range []int{1, most} {
			if got, e := lex.Next("", 0, x, y); got != (api.Token{Kind: api.TEnd, Line: x, Col: y}) || e != nil {
				t.Errorf("Next of nothing at %d:%d = %v, %v", x, y, got, e)
			}
		}
	}
}

// P7.1: what is none of the table, and words that are no names.
func TestSyntaxErrors(t *testing.T) {
	for _, s := range []string{
		"#", "##", "#x", "#T", "#tt", "#t#", "#true", "#false", "#f,", "#t`", "#f.", "# (", "#'a", "#;a", "#\"a\"", "#)", "#,a", "#1", "#t\\", "#t\x00",
		`#\`, `#\ `, "#\\\n", "#\\\t", "#\\\r", "#\\\x00", "#\\\x1f", `#\ab`, `#\(a`, `#\a,`, "#\\a`", `#\a#`, `#\spac`, `#\spaces`, `#\Space`, `#\newlin`, `#\tabs`, `#\nu`, `#\null`, `#\ space`, `#\12`, "#\\é",
		"a,b", "a`b", "a#b", "a#", "1,", "1`", "1#", ".,", ".#", "a,@b", "é", "a\x00b", "a\x7f", "\x7f", "\x80", "\xff", "\x00", "\x01", "\v", "\f", "a\va", "1\x80",
		strings.Repeat("a", 61), strings.Repeat("a", 5000), noughts(61), "-" + nines(60), strings.Repeat("a", 60) + ",",
		`"\a"`, `"\N"`, `"\0"`, `"\ "`, "\"\\\n\"", `"\'"`, `"ab\x41;"`, `"\\\q"`,
	} {
		fails(t, s, api.ErrSyntax, 1, 1)
		fails(t, "\n  "+s+" (b)", api.ErrSyntax, 2, 3)
	}
}

// P7.1: digits: within the bounds, beyond them, and too many.
func TestDigits(t *testing.T) {
	for _, c := range []struct {
		s    string
		want int
	}{
		{"1152921504606846975", 1<<60 - 1}, {"-1152921504606846976", -1 << 60}, {"-0", 0}, {"+0", 0},
		{noughts(30), 0}, {"-" + noughts(29) + "5", -5}, {"+" + noughts(11) + "1152921504606846975", 1<<60 - 1},
	} {
		reads(t, c.s, token(api.TInt, c.want, "", len(c.s)))
		reads(t, c.s+")", token(api.TInt, c.want, "", len(c.s)))
	}
	for _, s := range []string{"1152921504606846976", "-1152921504606846977", nines(30), "-" + nines(30), "+1" + noughts(29), "18446744073709551617"} {
		fails(t, s, api.ErrOverflow, 1, 1)
		fails(t, " \n\n"+s+")", api.ErrOverflow, 3, 1)
		reads(t, s+"x", token(api.TSym, 0, s+"x", len(s)+1))
	}
	for _, s := range []string{noughts(31), nines(31), "-" + noughts(31), "+" + nines(40), nines(60)} {
		reads(t, s, token(api.TSym, 0, s, len(s)))
	}
}

// P7.1: strings that are as long as may be, by the bytes that they have, however many were written.
func TestLongStrings(t *testing.T) {
	for _, unit := range []struct{ written, bytes string }{{"a", "a"}, {`\n`, "\n"}, {`\"`, `"`}, {`\\`, `\`}, {"\n", "\n"}, {"\x00", "\x00"}, {"\xff", "\xff"}} {
		for _, n := range []int{1, 249, 250, 251, 499, 500} {
			s := `"` + strings.Repeat(unit.written, n) + `"`
			reads(t, s, token(api.TStr, 0, strings.Repeat(unit.bytes, n), len(s)))
			reads(t, s+"x", token(api.TStr, 0, strings.Repeat(unit.bytes, n), len(s)))
		}
		for _, n := range []int{501, 502, 1000, 20000} {
			fails(t, `"`+strings.Repeat(unit.written, n)+`"`, api.ErrLong, 1, 1)
			fails(t, "\n "+`"`+strings.Repeat(unit.written, n)+`" #x`, api.ErrLong, 2, 2)
		}
	}
}

// P7.1: strings that aren't ended, and which error comes first where a string has more of them.
func TestErrorsOfStrings(t *testing.T) {
	long := strings.Repeat("a", 600)
	for _, s := range []string{`"`, `"a`, `"a (b`, `"\`, `"\"`, `"a\\\"`, `"\\\`, "\"a\n;b\n", `"` + long, `"` + long + `\`, `"` + long + `\"`} {
		fails(t, s, api.ErrEnd, 1, 1)
		fails(t, "\n"+s, api.ErrEnd, 2, 1)
	}
	for _, s := range []string{`"\a`, `"b\a\`, `"` + long + `\a`, `"` + long + `\a"`, `"\a` + long, `"\a` + long + `"`, `"\\` + long + `\n\ "`} {
		fails(t, s, api.ErrSyntax, 1, 1)
	}
}

// P7.1: each byte in a string, behind a backslash, as a character, in a word, and behind tokens.
func TestEachByte(t *testing.T) {
	for i := range 256 {
		c := string([]byte{byte(i)})
		delimiter := strings.Contains(delimiters, c)
		if c != `"` && c != `\` {
			reads(t, `"a`+c+`b"`, token(api.TStr, 0, "a"+c+"b", 5))
		}
		switch c {
		case "n", "t", `\`, `"`:
			reads(t, `"\`+c+`"`, token(api.TStr, 0, map[string]string{"n": "\n", "t": "\t"}[c]+strings.Trim(c, "nt"), 4))
		default:
			fails(t, `"\`+c+`"`, api.ErrSyntax, 1, 1)
		}
		if i > 32 {
			reads(t, `#\`+c, token(api.TChar, i, "", 3))
			reads(t, `#\`+c+" ", token(api.TChar, i, "", 3))
			fails(t, `#\`+c+"!", api.ErrSyntax, 1, 1)
		} else {
			fails(t, `#\`+c, api.ErrSyntax, 1, 1)
			fails(t, `#\`+c+" ", api.ErrSyntax, 1, 1)
		}
		name := i > 32 && i < 127 && !strings.Contains("()\";',`#", c)
		switch {
		case delimiter:
			reads(t, "ab"+c+"d", token(api.TSym, 0, "ab", 2))
			reads(t, `#\x`+c, token(api.TChar, 'x', "", 3))
			reads(t, `#\tab`+c, token(api.TChar, 9, "", 5))
			reads(t, "#t"+c, token(api.TBool, 1, "", 2))
			reads(t, "-7"+c, token(api.TInt, -7, "", 2))
			reads(t, "."+c, token(api.TDot, 0, "", 1))
			continue
		case name:
			reads(t, "ab"+c+"d", token(api.TSym, 0, "ab"+c+"d", 4))
			reads(t, "."+c, token(api.TSym, 0, "."+c, 2))
		default:
			fails(t, "ab"+c+"d", api.ErrSyntax, 1, 1)
			fails(t, "."+c, api.ErrSyntax, 1, 1)
		}
		fails(t, `#\x`+c, api.ErrSyntax, 1, 1)
		fails(t, `#\nul`+c, api.ErrSyntax, 1, 1)
		fails(t, "#f"+c, api.ErrSyntax, 1, 1)
	}
}

// P7.2: all tokens of a text, with their places.
func TestAll(t *testing.T) {
	for _, c := range []struct {
		text string
		want []api.Token
	}{
		{"", nil}, {" \n;a\n ;b", nil},
		{"(a -12 #t)", []api.Token{
			{Kind: api.TOpen, Line: 1, Col: 1, Next: 1}, {Kind: api.TSym, Text: "a", Line: 1, Col: 2, Next: 2}, {Kind: api.TInt, N: -12, Line: 1, Col: 4, Next: 6},
			{Kind: api.TBool, N: 1, Line: 1, Col: 8, Next: 9}, {Kind: api.TClose, Line: 1, Col: 10, Next: 10},
		}},
		{"`(x ,y\n ,@z);e\n#(\"a\nb\" . c)'", []api.Token{
			{Kind: api.TQuasi, Line: 1, Col: 1, Next: 1}, {Kind: api.TOpen, Line: 1, Col: 2, Next: 2}, {Kind: api.TSym, Text: "x", Line: 1, Col: 3, Next: 3},
			{Kind: api.TComma, Line: 1, Col: 5, Next: 5}, {Kind: api.TSym, Text: "y", Line: 1, Col: 6, Next: 6},
			{Kind: api.TSplice, Line: 2, Col: 2, Next: 10}, {Kind: api.TSym, Text: "z", Line: 2, Col: 4, Next: 11}, {Kind: api.TClose, Line: 2, Col: 5, Next: 12},
			{Kind: api.TVector, Line: 3, Col: 1, Next: 17}, {Kind: api.TStr, Text: "a\nb", Line: 3, Col: 3, Next: 22},
			{Kind: api.TDot, Line: 4, Col: 4, Next: 24}, {Kind: api.TSym, Text: "c", Line: 4, Col: 6, Next: 26}, {Kind: api.TClose, Line: 4, Col: 7, Next: 27}, {Kind: api.TQuote, Line: 4, Col: 8, Next: 28},
		}},
	} {
		if got, e := lex.All(c.text); !slices.Equal(got, c.want) || e != nil {
			t.Errorf("All(%q) = %v, %v; want %v", c.text, got, e, c.want)
		}
	}
}

// P7.2: the first error is told, and no tokens are.
func TestErrorsOfAll(t *testing.T) {
	for _, c := range []struct {
		text      string
		want      api.Kind
		line, col int
	}{
		{"#x", api.ErrSyntax, 1, 1}, {"(a\n b#c 99999999999999999999)", api.ErrSyntax, 2, 2}, {"(a\n 99999999999999999999 b#c)", api.ErrOverflow, 2, 2},
		{"a \"b\n\" \"", api.ErrEnd, 2, 3}, {"a b ; #x\n\"" + strings.Repeat("a", 501) + "\" #x", api.ErrLong, 2, 1}, {strings.Repeat("(", 1<<14-1) + "#", api.ErrSyntax, 1, 1 << 14},
		{strings.Repeat("\n", 1<<14-1) + "#", api.ErrSyntax, 1 << 14, 1}, {"\"" + strings.Repeat(`\n`, 1<<13-1) + `"`, api.ErrLong, 1, 1},
	} {
		if got, e := lex.All(c.text); got != nil || !isAt(e, c.want, c.line, c.col) {
			t.Errorf("All(%.80q) = %v, %#v; want %v at %d:%d", c.text, got, e, c.want, c.line, c.col)
		}
	}
}

// P7.2: a text is as long as may be, or longer; what stands in it is not looked at then.
func TestLongTexts(t *testing.T) {
	const size = 1 << 14
	for _, c := range []struct {
		text string
		want int
	}{
		{strings.Repeat("(", size), size}, {strings.Repeat("a ", size/2), size / 2}, {strings.Repeat("\n", size), 0}, {";" + strings.Repeat("a", size-1), 0}, {strings.Repeat("\n", size-1) + "a", 1},
	} {
		got, e := lex.All(c.text)
		if len(got) != c.want || e != nil {
			t.Errorf("All(%.20q..) has %d tokens, %v; want %d", c.text, len(got), e, c.want)
		}
	}
	for _, text := range []string{strings.Repeat("(", size+1), strings.Repeat(" ", size+1), "#x" + strings.Repeat(" ", size), strings.Repeat("\"", size+1), strings.Repeat("a", 3*size)} {
		var p api.At
		if got, e := lex.All(text); got != nil || !is(e, api.ErrLong) || errors.As(e, &p) {
			t.Errorf("All(%.20q..) has %d tokens, %#v; want long, without a place", text, len(got), e)
		}
	}
	// Next has no such bound.
	reads(t, strings.Repeat(" ", 3*size)+"a"+strings.Repeat(" ", size), api.Token{Kind: api.TSym, Text: "a", Line: 1, Col: 3*size + 1, Next: 3*size + 1})
}

// P7.3: names, and what is none.
func TestSymbol(t *testing.T) {
	for _, s := range []string{"a", "x1", "1x", "+", "-", "*", "..", "...", ".a", "list->vector", "set!", "a.b", "@", "@a", `\`, `a\b`, "|a|", "{}[]", "~", "!", "1+", "-a", "+-1", "1.5", "--1", strings.Repeat("a", 60), noughts(31), "-" + nines(31), nines(60)} {
		if !lex.Symbol(s) {
			t.Errorf("Symbol(%q) = false", s)
		}
	}
	for _, s := range []string{
		"", ".", "0", "7", "-7", "+7", "007", noughts(30), "-" + noughts(30), "1152921504606846975", "-1152921504606846976", "1152921504606846976", nines(30), "-" + nines(30),
		"a b", " a", "a ", "a\n", "(", "a)", "a\"", ";a", "a;", "'a", "a'", "a,b", ",", ",@", "a`", "a#", "#t", "#", "\x00", "\x1f", " ", "\x7f", "a\x7f", "\x80", "é", "a\xff",
		strings.Repeat("a", 61), strings.Repeat("a", 100000), noughts(61),
	} {
		if lex.Symbol(s) {
			t.Errorf("Symbol(%q) = true", s)
		}
	}
	for i := range 256 {
		c := string([]byte{byte(i)})
		want := i > 32 && i < 127 && !strings.Contains("()\";',`#", c)
		for _, s := range []string{"a" + c, c + "a", "a" + c + "a", strings.Repeat("a", 59) + c} {
			if lex.Symbol(s) != want {
				t.Errorf("Symbol(%q) = %v", s, !want)
			}
		}
	}
}

// P7.3: what is a name is read as that symbol, and what is none isn't.
func TestSymbolsAreRead(t *testing.T) {
	for s := range texts("a.1-+#\\,;t", 4) {
		got, e := lex.All(s)
		read := e == nil && len(got) == 1 && got[0] == token(api.TSym, 0, s, len(s))
		if lex.Symbol(s) != read {
			t.Errorf("Symbol(%q) = %v; All: %v, %v", s, !read, got, e)
		}
	}
	for _, s := range []string{nines(18), nines(19), nines(30), nines(31), noughts(30), noughts(31), fix.Text(1 << 60), fix.Text(1<<60 - 1), strings.Repeat("a", 60), strings.Repeat("a", 61)} {
		got, e := lex.All(s)
		read := e == nil && len(got) == 1 && got[0].Kind == api.TSym
		if lex.Symbol(s) != read {
			t.Errorf("Symbol(%q) = %v; All: %v, %v", s, !read, got, e)
		}
	}
}
