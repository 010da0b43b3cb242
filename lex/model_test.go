package lex_test

import (
	"iter"
	"regexp"
	"slices"
	"strings"
	"testing"

	"spindle/api"
	"spindle/fix"
	"spindle/lex"
)

// What follows is the chapter's table a second time, as regular expressions. They look at runes that are the text's bytes.

const edge = `(?:[ \t\n\r()";']|$)`

// form is a row of the table: what stands there, in its first group, and what it is.
type form struct {
	look *regexp.Regexp
	make func(s string) (api.Token, api.Kind)
}

// model reads tokens by the table's rows.
type model struct {
	blanks *regexp.Regexp
	forms  []form
}

var (
	digits = regexp.MustCompile(`^[+-]?[0-9]{1,30}$`)
	name   = regexp.MustCompile("^[!-~]{1,60}$")
)

func newModel() model {
	is := func(kind int) func(string) (api.Token, api.Kind) {
		return func(string) (api.Token, api.Kind) { return api.Token{Kind: kind}, 0 }
	}
	no := func(e api.Kind) func(string) (api.Token, api.Kind) {
		return func(string) (api.Token, api.Kind) { return api.Token{}, e }
	}
	row := func(look string, make func(string) (api.Token, api.Kind)) form {
		return form{regexp.MustCompile(`^(` + look + `)`), make}
	}
	return model{
		blanks: regexp.MustCompile(`^(?:[ \t\n\r]|;[^\n]*)*`),
		forms: []form{
			row(`$`, is(api.TEnd)), row(`\(`, is(api.TOpen)), row(`\)`, is(api.TClose)), row(`'`, is(api.TQuote)), row("`", is(api.TQuasi)),
			row(`,@`, is(api.TSplice)), row(`,`, is(api.TComma)), row(`#\(`, is(api.TVector)),
			row(`#[tf])`+edge+`(`, truth), row(`#\\(?:[\x21-\x{ff}]|space|newline|tab|nul))`+edge+`(`, char),
			row(`"(?:[^"\\]|\\[nt\\"])*"`, quoted), row(`"(?:[^"\\]|\\[nt\\"])*\\[^nt\\"]`, no(api.ErrSyntax)), row(`"`, no(api.ErrEnd)),
			row(`[^ \t\n\r()";']+`, word),
		},
	}
}

func truth(s string) (api.Token, api.Kind) {
	return api.Token{Kind: api.TBool, N: strings.Index("ft", s[1:])}, 0
}

func char(s string) (api.Token, api.Kind) {
	names := map[string]int{`#\space`: 32, `#\newline`: 10, `#\tab`: 9, `#\nul`: 0}
	if n, ok := names[s]; ok {
		return api.Token{Kind: api.TChar, N: n}, 0
	}
	return api.Token{Kind: api.TChar, N: int([]rune(s)[2])}, 0
}

func quoted(s string) (api.Token, api.Kind) {
	s = strings.NewReplacer(`\n`, "\n", `\t`, "\t", `\\`, `\`, `\"`, `"`).Replace(s[1 : len(s)-1])
	if len([]rune(s)) > 500 {
		return api.Token{}, api.ErrLong
	}
	return api.Token{Kind: api.TStr, Text: bytesOf(s)}, 0
}

func word(s string) (api.Token, api.Kind) {
	switch {
	case s == ".":
		return api.Token{Kind: api.TDot}, 0
	case digits.MatchString(s):
		n, e := fix.Parse(s)
		if e != nil {
			return api.Token{}, api.ErrOverflow
		}
		return api.Token{Kind: api.TInt, N: n}, 0
	case name.MatchString(s) && !strings.ContainsAny(s, ",`#"):
		return api.Token{Kind: api.TSym, Text: s}, 0
	}
	return api.Token{}, api.ErrSyntax
}

// runesOf are a text's bytes, each a rune; bytesOf is the way back.
func runesOf(s string) string {
	var b strings.Builder
	for i := range len(s) {
		b.WriteRune(rune(s[i]))
	}
	return b.String()
}

func bytesOf(s string) string {
	var b strings.Builder
	for _, c := range s {
		b.WriteByte(byte(c))
	}
	return b.String()
}

// next is the first token of runes, or an error's kind and its place, and all that stands ahead of what follows.
func (m model) next(runes string, line, col int) (t api.Token, e api.Kind, passed string) {
	blanks := m.blanks.FindString(runes)
	runes = runes[len(blanks):]
	line, col = moved(blanks, line, col)
	for _, f := range m.forms {
		found := f.look.FindStringSubmatch(runes)
		if found == nil {
			continue
		}
		t, e = f.make(found[1])
		t.Line, t.Col = line, col
		return t, e, blanks + found[1]
	}
	panic("no row takes " + runes)
}

func moved(passed string, line, col int) (int, int) {
	for _, c := range passed {
		col++
		if c == '\n' {
			line, col = line+1, 1
		}
	}
	return line, col
}

// all are all tokens of a text, and the first error with its place.
func (m model) all(text string) ([]api.Token, api.Kind, int, int) {
	runes, at, line, col := runesOf(text), 0, 1, 1
	var tokens []api.Token
	for {
		t, e, passed := m.next(runes, line, col)
		if e != 0 {
			return nil, e, t.Line, t.Col
		}
		if t.Kind == api.TEnd {
			return tokens, 0, 0, 0
		}
		at += len([]rune(passed))
		t.Next = at
		tokens = append(tokens, t)
		runes = runes[len(passed):]
		line, col = moved(passed, line, col)
	}
}

// agrees holds All and Next of a text against the model.
func (m model) agrees(t *testing.T, text string) {
	t.Helper()
	want, fault, line, col := m.all(text)
	got, e := lex.All(text)
	if !slices.Equal(got, want) || fault == 0 && e != nil || fault != 0 && !isAt(e, fault, line, col) {
		t.Errorf("All(%q) = %v, %#v; want %v, %v at %d:%d", text, got, e, want, fault, line, col)
	}
	first, kind, passed := m.next(runesOf(text), 7, 5)
	token, e := lex.Next(text, 0, 7, 5)
	if kind != 0 {
		if token != (api.Token{}) || !isAt(e, kind, first.Line, first.Col) {
			t.Errorf("Next(%q) = %v, %#v; want %v at %d:%d", text, token, e, kind, first.Line, first.Col)
		}
		return
	}
	first.Next = len([]rune(passed))
	if token != first || e != nil {
		t.Errorf("Next(%q) = %v, %v; want %v", text, token, e, first)
	}
}

// texts are all texts of at most so many of the bytes.
func texts(bytes string, most int) iter.Seq[string] {
	return func(yield func(string) bool) {
		all := []string{""}
		for range most + 1 {
			var longer []string
			for _, s := range all {
				if !yield(s) {
					return
				}
				for i := range len(bytes) {
					longer = append(longer, s+bytes[i:i+1])
				}
			}
			all = longer
		}
	}
}

// dice are numbers that come the same way each time.
type dice uint64

func (d *dice) below(n int) int {
	*d = *d*6364136223846793005 + 1442695040888963407
	return int(uint64(*d) >> 33 % uint64(n))
}

// P7.1, P7.2: all short texts of the bytes that mean something.
func TestShortTexts(t *testing.T) {
	m := newModel()
	for s := range texts("()#\\\";,@.1-tn \n", 4) {
		m.agrees(t, s)
	}
	for s := range texts("#\\\"(t a", 5) {
		m.agrees(t, s)
	}
	for s := range texts("\"\\n;\n", 6) {
		m.agrees(t, s)
	}
}

// right are tokens, as they are written.
func right() []string {
	return []string{
		"(", ")", "'", "`", ",", ",@", "#(", "#t", "#f", `#\a`, `#\space`, `#\newline`, `#\tab`, `#\nul`, `#\(`, `#\;`, "#\\\xe9", `""`, `"a b"`, `"\n\t\\\""`, "\"a\n;b\"", ".", "...", "0", "-12", "+7",
		"1152921504606846975", "a", "set!", "1+", "-", "@", "\\", strings.Repeat("b", 60), nines(31),
	}
}

// pieces are tokens, blanks, and what is none of these.
func pieces() []string {
	return append(right(), " ", "  ", "\n", "\t", "\r\n", ";c\n", "; ( \" ' #\n", "#", "\"", ";", "\x00", "\x7f", "\xff", "é", "1152921504606846976")
}

// P7.1, P7.2: longer texts, of tokens and of pieces that are none, one behind the other.
func TestScatteredTexts(t *testing.T) {
	m, d, all := newModel(), dice(7), pieces()
	for range 4000 {
		var b strings.Builder
		for range d.below(14) {
			b.WriteString(all[d.below(len(all))])
			if d.below(2) == 0 {
				b.WriteByte(' ')
			}
		}
		m.agrees(t, b.String())
	}
}

// P7.1, P7.2: any bytes.
func TestAnyBytes(t *testing.T) {
	m, d := newModel(), dice(11)
	for range 4000 {
		b := make([]byte, d.below(12))
		for i := range b {
			b[i] = byte(d.below(256))
		}
		m.agrees(t, string(b))
	}
}

// P7.4: tokens lie one behind the other: All's are those that Next tells one by one, in rising places, and nothing but blanks is between them.
func TestTokensLieBehindOneAnother(t *testing.T) {
	m, d, all := newModel(), dice(13), right()
	for range 2000 {
		var b strings.Builder
		for range d.below(20) {
			b.WriteString(all[d.below(len(all))] + []string{" ", "\n", " ;x\n\t"}[d.below(3)])
		}
		text := b.String()
		tokens, e := lex.All(text)
		if e != nil {
			t.Fatalf("All(%q): %v", text, e)
		}
		at, line, col := 0, 1, 1
		for i, want := range tokens {
			got, e := lex.Next(text, at, line, col)
			if got != want || e != nil {
				t.Fatalf("token %d of %q is %v, %v by Next, %v by All", i, text, got, e, want)
			}
			begin := at + len(m.blanks.FindString(text[at:]))
			if l, c := moved(text[at:begin], line, col); got.Line != l || got.Col != c {
				t.Errorf("token %d of %q: %v; want it at %d:%d", i, text, got, l, c)
			}
			if got.Next <= begin || got.Next > len(text) {
				t.Fatalf("token %d of %q goes from %d up to %d", i, text, begin, got.Next)
			}
			line, col = moved(text[at:got.Next], line, col)
			at = got.Next
		}
		if left := text[at:]; m.blanks.FindString(left) != left {
			t.Errorf("behind the tokens of %q stands %q", text, left)
		}
	}
}

// P7.4: blanks between tokens change nothing but places.
func TestBlanksBetweenTokens(t *testing.T) {
	d, all := dice(17), right()
	between := []string{" ", "\n", "\t", "\r", " \n ", ";\n", ";a\n", " ; ( \"b\n\n", "\r\n;'\n;\n"}
	for range 2000 {
		var plain, other strings.Builder
		for range d.below(12) {
			piece := all[d.below(len(all))]
			plain.WriteString(piece + " ")
			other.WriteString(between[d.below(len(between))] + piece + between[d.below(len(between))])
		}
		a, e := lex.All(plain.String())
		b, f := lex.All(other.String())
		if e != nil || f != nil || len(a) != len(b) {
			t.Fatalf("%q: %d tokens, %v; %q: %d, %v", plain.String(), len(a), e, other.String(), len(b), f)
		}
		for i := range a {
			if a[i].Kind != b[i].Kind || a[i].N != b[i].N || a[i].Text != b[i].Text {
				t.Errorf("%q: token %d is %v; %q: %v", plain.String(), i, a[i], other.String(), b[i])
			}
		}
	}
}
