package read_test

import (
	"iter"
	"strconv"
	"strings"
	"testing"

	"spindle/api"
	"spindle/lex"
	"spindle/read"
)

// What follows is the chapter's grammar a second time: a stack of what isn't whole yet, told token by token.

// wants says what may follow within something that isn't whole.
type wants int

const (
	moreOrEnd wants = iota // of a row: data, and its end
	tail                   // of a row, behind its full stop: a datum
	end                    // of a row, behind that: nothing but its end
	inner                  // of a mark: a datum
)

// open is something that isn't whole: a row, or a mark.
type open struct {
	kind  int // of the token that begins it
	wants wants
	items []api.Datum
	last  []api.Datum // what stands behind the full stop
}

// model is a stack of those, the number of tokens that were told, and what came of them.
type model struct {
	stack []open
	told  int
	whole []api.Datum
}

// tell says what is wrong with a token, if something is; else the model knows it.
func (m *model) tell(t api.Token) api.Kind {
	m.told++
	if n := len(m.stack); n > 0 {
		top := &m.stack[n-1]
		switch {
		case top.wants == end && t.Kind == api.TEnd:
			return api.ErrEnd
		case top.wants == end && t.Kind != api.TClose:
			return api.ErrSyntax
		case t.Kind == api.TClose && (top.wants == moreOrEnd || top.wants == end):
			m.stack = m.stack[:n-1]
			m.put(top.closed())
			return 0
		case t.Kind == api.TDot && top.kind == api.TOpen && top.wants == moreOrEnd && len(top.items) > 0:
			top.wants = tail
			return 0
		}
	}
	return m.begin(t)
}

// begin is told a token where a datum should begin.
func (m *model) begin(t api.Token) api.Kind {
	switch {
	case t.Kind == api.TEnd:
		return api.ErrEnd
	case len(m.stack) >= 64 || m.told > 4000:
		return api.ErrLong
	case t.Kind == api.TClose || t.Kind == api.TDot:
		return api.ErrSyntax
	case t.Kind == api.TOpen || t.Kind == api.TVector:
		m.stack = append(m.stack, open{kind: t.Kind, wants: moreOrEnd})
	case marks[t.Kind] != "":
		m.stack = append(m.stack, open{kind: t.Kind, wants: inner})
	default:
		m.put(api.Datum{Kind: atoms[t.Kind], N: t.N, Text: t.Text})
	}
	return 0
}

var (
	marks = map[int]string{api.TQuote: "quote", api.TQuasi: "quasiquote", api.TComma: "unquote", api.TSplice: "unquote-splicing"}
	atoms = map[int]int{api.TInt: api.DInt, api.TBool: api.DBool, api.TChar: api.DChar, api.TStr: api.DStr, api.TSym: api.DSym}
)

// put puts a whole datum where it belongs; marks ahead of it are whole then, too.
func (m *model) put(d api.Datum) {
	for len(m.stack) > 0 {
		top := &m.stack[len(m.stack)-1]
		switch top.wants {
		case moreOrEnd:
			top.items = append(top.items, d)
			return
		case tail:
			top.last, top.wants = []api.Datum{d}, end
			return
		}
		d = list(sym(marks[top.kind]), d)
		m.stack = m.stack[:len(m.stack)-1]
	}
	m.whole = append(m.whole, d)
}

// closed is a row that is whole.
func (o open) closed() api.Datum {
	switch {
	case o.kind == api.TVector:
		return vec(o.items...)
	case len(o.last) == 0:
		return list(o.items...)
	case o.last[0].Kind == api.DList:
		return list(append(o.items, o.last[0].Items...)...)
	case o.last[0].Kind == api.DDot:
		return dot(append(o.items, o.last[0].Items...)...)
	}
	return dot(append(o.items, o.last[0])...)
}

// place is where something stands.
type place struct{ at, line, col int }

// one is what the model says of the first datum behind a place: that, and the place behind it, or an error and its place.
func one(text string, p place) (api.Datum, place, error, place) {
	var m model
	for len(m.whole) == 0 {
		t, e := lex.Next(text, p.at, p.line, p.col)
		if e != nil {
			at := e.(api.At)
			return api.Datum{}, place{}, at.Err, place{line: at.Line, col: at.Col}
		}
		if kind := m.tell(t); kind != 0 {
			return api.Datum{}, place{}, kind, place{line: t.Line, col: t.Col}
		}
		for ; p.at < t.Next; p.at++ {
			p.col++
			if text[p.at] == '\n' {
				p.line, p.col = p.line+1, 1
			}
		}
	}
	return m.whole[0], p, nil, place{}
}

// agrees holds One and All of a text against the model.
func agrees(t *testing.T, text string) {
	t.Helper()
	var want []api.Datum
	p := place{0, 1, 1}
	for {
		d, behind, fault, where := one(text, p)
		got, next, e := read.One(text, p.at, p.line, p.col)
		if fault != nil {
			if !none(got) || next != 0 || !isAt(e, fault.(api.Kind), where.line, where.col) {
				t.Fatalf("One(%q, %d) = %s, %d, %#v; want %v at %d:%d", text, p.at, plain(got), next, e, fault, where.line, where.col)
			}
			agreesAll(t, text, want, p, fault, where)
			return
		}
		if e != nil || next != behind.at || !same(got, d) {
			t.Fatalf("One(%q, %d) = %s, %d, %v; want %s, %d", text, p.at, plain(got), next, e, plain(d), behind.at)
		}
		if parts(got) <= 4000 && read.Check(got) != nil {
			t.Fatalf("Check of %q that was read: %v", text, read.Check(got))
		}
		want = append(want, d)
		p = behind
	}
}

// agreesAll holds All against what One had: these data up to a place, and an error behind it. That is none, where nothing but blanks is left.
func agreesAll(t *testing.T, text string, want []api.Datum, p place, fault error, where place) {
	t.Helper()
	got, e := read.All(text)
	if rest, err := lex.Next(text, p.at, p.line, p.col); err == nil && rest.Kind == api.TEnd {
		if e != nil || !sameAll(got, want) {
			t.Fatalf("All(%q) = %s, %v; want %s", text, plain(list(got...)), e, plain(list(want...)))
		}
		return
	}
	if got != nil || !isAt(e, fault.(api.Kind), where.line, where.col) {
		t.Fatalf("All(%q) = %s, %#v; want %v at %d:%d", text, plain(list(got...)), e, fault, where.line, where.col)
	}
}

// plain is a datum as a text without full stops that could be left out, and without marks.
func plain(d api.Datum) string {
	var b strings.Builder
	write(&b, d, func(int) int { return 0 })
	return b.String()
}

// write puts a datum's text to b; choose(n) says in which of n ways, where there is more than one; 0 is the plainest one.
func write(b *strings.Builder, d api.Datum, choose func(n int) int) {
	switch d.Kind {
	case api.DInt:
		b.WriteString(strconv.Itoa(d.N))
	case api.DBool:
		b.WriteString([]string{"#f", "#t"}[d.N&1])
	case api.DChar:
		b.WriteString(charText(d.N))
	case api.DStr:
		b.WriteString(`"` + strings.NewReplacer("\n", `\n`, "\t", `\t`, `\`, `\\`, `"`, `\"`).Replace(d.Text) + `"`)
	case api.DSym:
		b.WriteString(d.Text)
	case api.DList:
		if mark := markOf(d); mark != "" && choose(2) == 1 {
			b.WriteString(mark + blank(choose, ""))
			write(b, d.Items[1], choose)
			return
		}
		writeRow(b, "(", d.Items, nil, choose)
	case api.DDot:
		if n := len(d.Items) - 1; n >= 0 {
			writeRow(b, "(", d.Items[:n], &d.Items[n], choose)
		}
	case api.DVec:
		b.WriteString("#(")
		writeItems(b, d.Items, choose)
		b.WriteString(")")
	default:
		b.WriteString("?")
	}
}

func charText(n int) string {
	switch n {
	case 0:
		return `#\nul`
	case 9:
		return `#\tab`
	case 10:
		return `#\newline`
	case 32:
		return `#\space`
	}
	return `#\` + string([]byte{byte(n)})
}

// markOf is the mark that a list of two may be written with.
func markOf(d api.Datum) string {
	if len(d.Items) != 2 || d.Items[0].Kind != api.DSym {
		return ""
	}
	// Behind a comma a name's @ would be one of the mark's.
	return map[string]string{"quote": "'", "quasiquote": "`", "unquote": ", ", "unquote-splicing": ",@"}[d.Items[0].Text]
}

// writeRow puts a list's text to b: its items, and the rest, if there is one. It may be parted by full stops.
func writeRow(b *strings.Builder, begin string, items []api.Datum, rest *api.Datum, choose func(n int) int) {
	b.WriteString(begin)
	if n := len(items); n > 1 && choose(4) == 1 {
		at := 1 + choose(n-1)
		writeItems(b, items[:at], choose)
		b.WriteString(blank(choose, " ") + "." + blank(choose, " "))
		writeRow(b, "(", items[at:], rest, choose)
		b.WriteString(")")
		return
	}
	writeItems(b, items, choose)
	switch {
	case rest != nil:
		b.WriteString(blank(choose, " ") + "." + blank(choose, " "))
		write(b, *rest, choose)
	case len(items) > 0 && choose(8) == 1:
		b.WriteString(blank(choose, " ") + "." + blank(choose, " ") + "()")
	}
	b.WriteString(blank(choose, "") + ")")
}

func writeItems(b *strings.Builder, items []api.Datum, choose func(n int) int) {
	for i, item := range items {
		if i > 0 {
			b.WriteString(blank(choose, " "))
		}
		write(b, item, choose)
	}
}

// blank is some blanks, or the plainest ones.
func blank(choose func(n int) int, plainest string) string {
	return []string{plainest, plainest, plainest, " ", "\n", "\t", "  \r\n", " ;)\n", " ; (\"\n ;\n"}[choose(9)]
}

// dice are numbers that come the same way each time.
type dice uint64

func (d *dice) below(n int) int {
	*d = *d*6364136223846793005 + 1442695040888963407
	return int(uint64(*d) >> 33 % uint64(n))
}

// datum is some right datum.
func (d *dice) datum(depth int) api.Datum {
	kinds := 8
	if depth == 0 {
		kinds = 5
	}
	switch 1 + d.below(kinds) {
	case api.DInt:
		return num([]int{0, 1, -1, 42, 1<<60 - 1, -1 << 60}[d.below(6)])
	case api.DBool:
		return truth(d.below(2))
	case api.DChar:
		return char([]int{0, 9, 10, 32, 33, '(', ')', '"', ';', '\\', 'a', 127, 255}[d.below(13)])
	case api.DStr:
		return str([]string{"", "a", "(", "a\nb", "\"\\\t", ";", "\x00\xff", "' . )"}[d.below(8)])
	case api.DList:
		if d.below(3) == 0 {
			return list(sym([]string{"quote", "quasiquote", "unquote", "unquote-splicing"}[d.below(4)]), d.datum(depth-1))
		}
		return list(d.data(d.below(5), depth-1)...)
	case api.DDot:
		last := vec(d.data(d.below(3), depth-1)...)
		if d.below(2) == 0 {
			last = d.datum(0)
		}
		return dot(append(d.data(1+d.below(3), depth-1), last)...)
	case api.DVec:
		return vec(d.data(d.below(4), depth-1)...)
	}
	return sym([]string{"a", "quote", "...", "+", "list->vector", "unquote", "..", "@"}[d.below(8)])
}

func (d *dice) data(n, depth int) []api.Datum {
	items := make([]api.Datum, n)
	for i := range items {
		items[i] = d.datum(depth)
	}
	return items
}

// texts are all texts of at most so many of the pieces.
func texts(most int, pieces ...string) iter.Seq[string] {
	return func(yield func(string) bool) {
		all := []string{""}
		for range most + 1 {
			var longer []string
			for _, s := range all {
				if !yield(s) {
					return
				}
				for _, piece := range pieces {
					longer = append(longer, s+piece)
				}
			}
			all = longer
		}
	}
}

// P8.1, P8.2, P8.4: all short texts of the tokens that mean something.
func TestShortTexts(t *testing.T) {
	for text := range texts(6, "(", ")", "#(", "'", " . ", "a ") {
		agrees(t, text)
	}
	for text := range texts(8, "(", ")", ". ", "a ") {
		agrees(t, text)
	}
	for text := range texts(4, "(", ")", "#(", ",", ",@", "`", ".", "\n", "1", "\"", "#t ", ";") {
		agrees(t, text)
	}
}

// P8.1, P8.2, P8.4: longer texts of tokens, one behind the other, some of them wrong, and of deep ones.
func TestScatteredTexts(t *testing.T) {
	d := dice(3)
	pieces := []string{"(", ")", "(", ")", "#(", "'", "`", ",", ",@", " . ", "a ", "12 ", "#t ", `#\( `, `"b` + "\n" + `c"`, "\n", ";)\n", "#x", "\"", "99999999999999999999 "}
	for range 20000 {
		var b strings.Builder
		most := len(pieces) - d.below(4)
		for range d.below(40) {
			b.WriteString(pieces[d.below(most)])
		}
		agrees(t, b.String())
	}
	for range 2000 {
		var b strings.Builder
		for range 55 + d.below(20) {
			b.WriteString([]string{"(", "'", "#(", "(a ", "(a . ", "((a) ", "(a . b)"}[d.below(7)])
		}
		b.WriteString([]string{"", "a", ")", ".", "()", "(a . b", "#x", "\""}[d.below(8)])
		b.WriteString(strings.Repeat(")", d.below(75)))
		agrees(t, b.String())
	}
}

// P8.1, P8.4: long data, with about as many tokens as may be.
func TestScatteredLongTexts(t *testing.T) {
	d := dice(5)
	pieces := []struct {
		text   string
		tokens int
	}{{"a ", 1}, {"()", 2}, {"'a ", 2}, {"(a . b)", 5}, {"(a . (b))", 7}}
	for range 300 {
		var b strings.Builder
		b.WriteString([]string{"(", "#(", "'(", "(("}[d.below(4)])
		for tokens := 1 + d.below(2); tokens < 3990; {
			piece := pieces[d.below(len(pieces))]
			tokens += piece.tokens
			b.WriteString(piece.text)
		}
		b.WriteString(strings.Repeat("a ", d.below(12)))
		b.WriteString([]string{"", ".", ". ", "'", "b", "b c", ". b", ". (b)", "#(b . c)", ". b c"}[d.below(10)])
		b.WriteString(strings.Repeat(")", d.below(4)))
		agrees(t, b.String())
	}
}

// P8.1, P8.2, P8.4: any bytes.
func TestAnyBytes(t *testing.T) {
	d := dice(11)
	for range 20000 {
		b := make([]byte, d.below(14))
		for i := range b {
			b[i] = byte(d.below(256))
			if d.below(2) == 0 {
				b[i] = "()#'`,@. a1\"\\\n;"[d.below(15)]
			}
		}
		agrees(t, string(b))
	}
}

// P8.1, P8.2, P8.4: right data, however they are written: with marks, full stops and blanks, or without.
func TestWrittenData(t *testing.T) {
	d := dice(17)
	for range 20000 {
		want := d.data(1+d.below(3), d.below(6))
		var b strings.Builder
		b.WriteString(blank(d.below, ""))
		for _, x := range want {
			if e := read.Check(x); e != nil {
				t.Fatalf("Check of %s: %v", plain(x), e)
			}
			write(&b, x, d.below)
			b.WriteString(blank(d.below, " "))
		}
		text := b.String()
		if got, e := read.All(text); e != nil || !sameAll(got, want) {
			t.Fatalf("All(%q) = %s, %v; want %s", text, plain(list(got...)), e, plain(list(want...)))
		}
		agrees(t, text)
	}
}
