package obj_test

import (
	"errors"
	"slices"
	"testing"

	"spindle/api"
	"spindle/obj"
	"spindle/tread"
	"spindle/word"
)

const (
	plain = 1
	raw   = 2
	weak  = 3

	minInt = -1 << 63
	maxInt = 1<<63 - 1
)

// counts are cells of each size.
type counts = [api.Classes]int

// made is a heap.
func made(t *testing.T, c counts, k int) *tread.Heap {
	t.Helper()
	h, e := tread.New(c, k)
	well(t, "New", e)
	return h
}

// roomy is a heap in which no allocation of these tests is refused.
func roomy(t *testing.T) *tread.Heap {
	t.Helper()
	return made(t, counts{1000, 500, 200, 200}, 1)
}

// well holds that a call answered no error.
func well(t *testing.T, what string, e error) {
	t.Helper()
	if e != nil {
		t.Fatalf("%s: %v", what, e)
	}
}

// is tells whether an error is just the kind that is asked for, and no other one; 0: there is none.
func is(e error, want api.Kind) bool {
	if want == 0 {
		return e == nil
	}
	for k := api.ErrNil; k <= api.ErrUndefined; k++ {
		if errors.Is(e, k) != (k == want) {
			return false
		}
	}
	return true
}

// refused holds that a call answered nothing but that error.
func refused(t *testing.T, what string, w uint64, e error, want api.Kind) {
	t.Helper()
	if w != 0 || !is(e, want) {
		t.Errorf("%s = %d, %v; want 0, %v", what, w, e, want)
	}
}

func fix(n int) uint64 {
	w, _ := word.Fix(n)
	return w
}

func root(t *testing.T, h *tread.Heap, i int, w uint64) {
	t.Helper()
	well(t, "SetRoot", h.SetRoot(i, w))
}

// build is an object.
func build(t *testing.T, h *tread.Heap, tag int, fields ...uint64) uint64 {
	t.Helper()
	w, e := obj.Make(h, tag, fields...)
	well(t, "Make", e)
	return w
}

// text is a string.
func text(t *testing.T, h *tread.Heap, s string) uint64 {
	t.Helper()
	w, e := obj.Str(h, s)
	well(t, "Str", e)
	return w
}

// bare is a cell that the heap itself gave.
func bare(t *testing.T, h *tread.Heap, form, tag, n int) uint64 {
	t.Helper()
	w, e := h.Alloc(form, tag, n)
	well(t, "Alloc", e)
	return w
}

// chain is the list of some words, with an end; it stands in the register 0, so that it may be longer than what the collector leaves alone.
func chain(t *testing.T, h *tread.Heap, end uint64, words ...uint64) uint64 {
	t.Helper()
	root(t, h, 0, end)
	for _, x := range slices.Backward(words) {
		end = build(t, h, 1, x, end)
		root(t, h, 0, end)
	}
	return end
}

// numbers are the words of 0 up to n, not with it.
func numbers(n int) []uint64 {
	var l []uint64
	for i := range n {
		l = append(l, fix(i))
	}
	return l
}

// immediate are words of all kinds but cells, and words of no kind.
func immediate() []uint64 {
	char, _ := word.Char(65)
	symbol, _ := word.Symbol(4095)
	prim, _ := word.Prim(255)
	return []uint64{fix(0), fix(-1), fix(api.MaxFix), char, word.Bool(false), word.Bool(true), word.Nil(), word.Void(), word.Undef(), symbol, prim, 7, 1<<64 - 1, 1<<43 + 9, 1<<64 - 7}
}

// strangers are words of the kind 2 that are no cells of any heap that has that one.
func strangers(c uint64) []uint64 {
	last, _ := word.Cell(1 << 40)
	none, _ := word.Cell(0)
	return []uint64{none, last, c + 8, c + 16, c - 8}
}

// state is what can be told of a heap but for its cells.
type state struct {
	free    counts
	marking bool
	cycles  int
}

func stateOf(h *tread.Heap) state {
	s := state{marking: h.Marking(), cycles: h.Cycles()}
	for i := range s.free {
		s.free[i] = h.Free(i)
	}
	return s
}

// The chapter's examples.
func TestExamples(t *testing.T) {
	h := roomy(t)
	l, e := obj.Make(h, 1, fix(1), word.Nil())
	if e != nil || word.Kind(l) != 2 {
		t.Fatalf("Make = %d, %v", l, e)
	}
	if w, e := obj.Field(h, l, 1, 0); w != fix(1) || e != nil {
		t.Errorf("Field(.., 1, 0) = %d, %v", w, e)
	}
	if words, e := obj.List(h, l, 5); !slices.Equal(words, []uint64{fix(1)}) || e != nil {
		t.Errorf("List = %v, %v", words, e)
	}
	w, e := obj.Field(h, l, 3, 0)
	refused(t, "Field(.., 3, 0)", w, e, api.ErrType)
	w, e = obj.Field(h, l, 1, 2)
	refused(t, "Field(.., 1, 2)", w, e, api.ErrIndex)
	s := text(t, h, "abc")
	if x, e := obj.Text(h, s); x != "abc" || e != nil {
		t.Errorf("Text = %q, %v", x, e)
	}
	if n := obj.Len(h, s); n != 2 {
		t.Errorf("Len = %d; want 2", n)
	}
}

// P6.1: of a heap that is none, ahead of all other errors.
func TestNil(t *testing.T) {
	long := string(make([]byte, 501))
	for _, tag := range []int{1, 2, 99} {
		w, e := obj.Make(nil, tag, make([]uint64, 121)...)
		refused(t, "Make", w, e, api.ErrNil)
		w, e = obj.Make(nil, tag)
		refused(t, "Make", w, e, api.ErrNil)
		for _, n := range []int{1, -1, 121} {
			w, e = obj.Fill(nil, tag, n, 1)
			refused(t, "Fill", w, e, api.ErrNil)
			w, e = obj.Field(nil, 17, tag, n)
			refused(t, "Field", w, e, api.ErrNil)
			refused(t, "SetField", 0, obj.SetField(nil, 17, tag, n, 1), api.ErrNil)
		}
	}
	for _, s := range []string{"", "abc", long} {
		w, e := obj.Str(nil, s)
		refused(t, "Str", w, e, api.ErrNil)
	}
	for _, w := range []uint64{0, 17, word.Nil(), 1<<64 - 1} {
		if s, e := obj.Text(nil, w); s != "" || !is(e, api.ErrNil) {
			t.Errorf("Text = %q, %v", s, e)
		}
		for _, most := range []int{0, 5, -1} {
			if l, e := obj.List(nil, w, most); len(l) > 0 || !is(e, api.ErrNil) {
				t.Errorf("List = %v, %v", l, e)
			}
		}
		if tag, n := obj.Tag(nil, w), obj.Len(nil, w); tag != 0 || n != 0 {
			t.Errorf("Tag, Len = %d, %d", tag, n)
		}
	}
}

// holds holds that w is an object of plain form with just these fields.
func holds(t *testing.T, h *tread.Heap, w uint64, tag int, fields []uint64) {
	t.Helper()
	if form, g, n, e := h.Shape(w); form != plain || g != tag || n != len(fields) || e != nil {
		t.Fatalf("Shape = %d, %d, %d, %v; want 1, %d, %d", form, g, n, e, tag, len(fields))
	}
	if g, n := obj.Tag(h, w), obj.Len(h, w); g != tag || n != len(fields) {
		t.Fatalf("Tag, Len = %d, %d; want %d, %d", g, n, tag, len(fields))
	}
	for i, want := range fields {
		if x, e := obj.Field(h, w, tag, i); x != want || e != nil {
			t.Fatalf("Field(.., %d, %d) = %d, %v; want %d", tag, i, x, e, want)
		}
		if x, e := h.Get(w, i); x != want || e != nil {
			t.Fatalf("Get(.., %d) = %d, %v; want %d", i, x, e, want)
		}
	}
	x, e := obj.Field(h, w, tag, len(fields))
	refused(t, "Field behind the last one", x, e, api.ErrIndex)
}

// P6.1: objects of all tags and of all numbers of fields.
func TestMake(t *testing.T) {
	h := roomy(t)
	c := bare(t, h, plain, 5, 1)
	root(t, h, 1, c)
	mixed := append(immediate(), c)
	for tag := 1; tag <= 12; tag++ {
		for n := 0; n <= 120; n++ {
			if tag == 2 {
				continue
			}
			var fields []uint64
			for i := range n {
				fields = append(fields, mixed[(i+tag)%len(mixed)])
			}
			holds(t, h, build(t, h, tag, fields...), tag, fields)
		}
	}
}

// P6.1: what Make refuses, ahead of an allocation: nothing is changed.
func TestMakeRefuses(t *testing.T) {
	h := roomy(t)
	before := stateOf(h)
	for _, tag := range []int{minInt, -1, 0, 2, 13, 14, 15, 16, 17, 18, 257, 1 << 32, 1<<32 + 1, maxInt} {
		for _, n := range []int{0, 1, 2, 120, 121} {
			w, e := obj.Make(h, tag, make([]uint64, n)...)
			refused(t, "Make of a tag that is none", w, e, api.ErrArg)
		}
	}
	for tag := 1; tag <= 12; tag++ {
		for _, n := range []int{121, 122, 127, 128, 129, 200, 1000} {
			w, e := obj.Make(h, tag, make([]uint64, n)...)
			refused(t, "Make of too many fields", w, e, api.ErrArg)
		}
	}
	if s := stateOf(h); s != before {
		t.Errorf("the heap is %v; was %v", s, before)
	}
}

// P6.1: of the fields none may be a cell that is none, wherever it stands.
func TestMakeRefusesFields(t *testing.T) {
	h := roomy(t)
	c := bare(t, h, plain, 1, 2)
	root(t, h, 0, c)
	before := stateOf(h)
	for _, bad := range strangers(c) {
		for _, n := range []int{1, 2, 3, 40, 120} {
			for _, i := range []int{0, n / 2, n - 1} {
				fields := make([]uint64, n)
				fields[i] = bad
				w, e := obj.Make(h, 3, fields...)
				refused(t, "Make of a field that is none", w, e, api.ErrArg)
			}
			w, e := obj.Fill(h, 3, n, bad)
			refused(t, "Fill with a word that is none", w, e, api.ErrArg)
		}
	}
	if s := stateOf(h); s != before {
		t.Errorf("the heap is %v; was %v", s, before)
	}
}

// P6.1: what is handed in stays as it is, its spare room too, and is not kept.
func TestMakeKeepsNothing(t *testing.T) {
	h := roomy(t)
	fields := numbers(20)
	want := slices.Clone(fields)
	w := build(t, h, 3, fields[:9]...)
	if !slices.Equal(fields, want) {
		t.Errorf("the fields that were handed in are %v", fields)
	}
	for i := range fields {
		fields[i] = word.Nil()
	}
	holds(t, h, w, 3, want[:9])
	well(t, "SetField", obj.SetField(h, w, 3, 0, word.Undef()))
	if fields[0] != word.Nil() {
		t.Error("SetField changes what was handed in")
	}
}

// P6.1: all n fields are that.
func TestFill(t *testing.T) {
	h := roomy(t)
	c := bare(t, h, plain, 5, 1)
	root(t, h, 1, c)
	for i, w := range append(immediate(), c) {
		for _, n := range []int{0, 1, 2, 3, 4, 7, 8, 31, 32, 119, 120} {
			tag := []int{1, 3, 4, 5, 6, 7, 8, 9, 10, 11, 12}[(i+n)%11]
			x, e := obj.Fill(h, tag, n, w)
			well(t, "Fill", e)
			holds(t, h, x, tag, slices.Repeat([]uint64{w}, n))
		}
	}
}

// P6.1: what Fill refuses: ErrLong ahead of ErrArg, and nothing is changed.
func TestFillRefuses(t *testing.T) {
	h := roomy(t)
	before := stateOf(h)
	for _, n := range []int{minInt, -121, -1, 121, 122, 127, 128, 1 << 32, maxInt} {
		for _, tag := range []int{3, 2, 0, 13, -1} {
			for _, w := range []uint64{fix(1), 1} {
				x, e := obj.Fill(h, tag, n, w)
				refused(t, "Fill of too many", x, e, api.ErrLong)
			}
		}
	}
	for _, tag := range []int{minInt, -1, 0, 2, 13, 15, 16, 1<<32 + 3, maxInt} {
		for _, n := range []int{0, 1, 120} {
			x, e := obj.Fill(h, tag, n, word.Nil())
			refused(t, "Fill of a tag that is none", x, e, api.ErrArg)
		}
	}
	if s := stateOf(h); s != before {
		t.Errorf("the heap is %v; was %v", s, before)
	}
}

// P6.1, P6.2: ErrMemory, where no cell of the size is free, and behind all other errors.
func TestMemory(t *testing.T) {
	h := made(t, counts{1, 0, 0, 0}, 1)
	root(t, h, 0, build(t, h, 1, fix(1), fix(2)))
	for n := range 121 {
		w, e := obj.Make(h, 3, make([]uint64, n)...)
		refused(t, "Make", w, e, api.ErrMemory)
		w, e = obj.Fill(h, 3, n, word.Nil())
		refused(t, "Fill", w, e, api.ErrMemory)
		w, e = obj.Str(h, string(make([]byte, 4*n)))
		refused(t, "Str", w, e, api.ErrMemory)
	}
	w, e := obj.Make(h, 2, fix(1))
	refused(t, "Make", w, e, api.ErrArg)
	w, e = obj.Make(h, 1, 1)
	refused(t, "Make", w, e, api.ErrArg)
	w, e = obj.Fill(h, 1, 121, fix(1))
	refused(t, "Fill", w, e, api.ErrLong)
	w, e = obj.Fill(h, 0, 1, fix(1))
	refused(t, "Fill", w, e, api.ErrArg)
	w, e = obj.Str(h, string(make([]byte, 501)))
	refused(t, "Str", w, e, api.ErrLong)
	root(t, h, 0, word.Nil())
	h.Increment(20)
	if w, e := obj.Make(h, 1, fix(1), fix(2)); e != nil {
		t.Errorf("Make of a cell that is free again = %d, %v", w, e)
	}
}

// P6.1, P6.2: each of these allocates once: what the increments of Alloc do is done, also where no cell is free.
func TestOneAllocation(t *testing.T) {
	for _, k := range []int{1, 2, 3, 5, 64} {
		for _, size := range []int{0, 1, 40} {
			h, twin := made(t, counts{size, size, size, size}, k), made(t, counts{size, size, size, size}, k)
			for i := range 100 {
				n := []int{0, 3, 7, 31, 120}[i%5]
				switch i % 3 {
				case 0:
					obj.Make(h, 3, make([]uint64, n)...)
				case 1:
					obj.Fill(h, 3, n, word.Nil())
				default:
					obj.Str(h, string(make([]byte, 8*min(n, 62))))
					n = 1 + min(n, 62)
				}
				twin.Alloc(raw, 2, n)
				if s, want := stateOf(h), stateOf(twin); s != want {
					t.Fatalf("behind %d objects the heap is %v; want %v", i+1, s, want)
				}
			}
		}
	}
}

// mixedBytes are n bytes of all kinds.
func mixedBytes(n int) string {
	b := make([]byte, n)
	for i := range b {
		b[i] = byte(i*7 + n + 248)
	}
	return string(b)
}

// P6.2, P6.5: strings of all lengths are bytes as they were, nought and no text's bytes too.
func TestStr(t *testing.T) {
	h := roomy(t)
	var all []byte
	for i := range 256 {
		all = append(all, byte(255-i))
	}
	texts := []string{"abc", "\x00", "\x00\x00\x00", "a\x00", "\xff\xfe\x80", string(all), "äß€", "12345678", "123456789", string(make([]byte, 500))}
	for n := range 501 {
		texts = append(texts, mixedBytes(n))
	}
	for _, s := range texts {
		w := text(t, h, s)
		if got, e := obj.Text(h, w); got != s || e != nil {
			t.Fatalf("Text = %q, %v; want %q", got, e, s)
		}
		if tag, n := obj.Tag(h, w), obj.Len(h, w); tag != 2 || n != 1+(len(s)+7)/8 {
			t.Fatalf("Tag, Len = %d, %d of %d bytes", tag, n, len(s))
		}
	}
}

// A string is a raw cell: how many bytes, then the bytes, eight in a word, the first one lowest.
func TestHowStringsStand(t *testing.T) {
	h := roomy(t)
	for _, c := range []struct {
		text   string
		fields []uint64
	}{
		{"", []uint64{0}},
		{"a", []uint64{1, 0x61}},
		{"abc", []uint64{3, 0x636261}},
		{"abcdefgh", []uint64{8, 0x6867666564636261}},
		{"abcdefghi", []uint64{9, 0x6867666564636261, 0x69}},
		{"\x00\xff\x00", []uint64{3, 0xff00}},
		{"\x01\x02\x03\x04\x05\x06\x07\xff\x80\x00", []uint64{10, 0xff07060504030201, 0x80}},
	} {
		w := text(t, h, c.text)
		if form, tag, n, e := h.Shape(w); form != raw || tag != 2 || n != len(c.fields) || e != nil {
			t.Fatalf("%q: Shape = %d, %d, %d, %v", c.text, form, tag, n, e)
		}
		for i, want := range c.fields {
			if x, e := h.Get(w, i); x != want || e != nil {
				t.Errorf("%q: field %d = %d, %v; want %d", c.text, i, x, e, want)
			}
		}
	}
}

// A string may be made by hand, too.
func TestTextMadeByHand(t *testing.T) {
	h := roomy(t)
	w := bare(t, h, raw, 2, 3)
	for i, x := range []uint64{10, 0x6867666564636261, 0x6a69} {
		well(t, "Set", h.Set(w, i, x))
	}
	if s, e := obj.Text(h, w); s != "abcdefghij" || e != nil {
		t.Errorf("Text = %q, %v", s, e)
	}
}

// P6.2: more than 500 bytes are no string, and nothing is changed.
func TestStrRefuses(t *testing.T) {
	h := roomy(t)
	before := stateOf(h)
	for _, n := range []int{501, 502, 504, 1000, 1008, 1009, 1 << 20} {
		w, e := obj.Str(h, string(make([]byte, n)))
		refused(t, "Str", w, e, api.ErrLong)
	}
	if s := stateOf(h); s != before {
		t.Errorf("the heap is %v; was %v", s, before)
	}
}

// P6.2: what is no string: words that are no cells, and cells of another form or tag.
func TestTextRefuses(t *testing.T) {
	h := roomy(t)
	no := func(w uint64) {
		t.Helper()
		if s, e := obj.Text(h, w); s != "" || !is(e, api.ErrType) {
			t.Errorf("Text(%d) = %q, %v; want ErrType", w, s, e)
		}
	}
	for tag := range 16 {
		for form := plain; form <= weak; form++ {
			if form == raw && tag == 2 {
				continue
			}
			w := bare(t, h, form, tag, 2)
			no(w)
			for _, size := range []uint64{0, 8, 1} { // a first field that would do as a number of bytes
				if h.Set(w, 0, size) == nil {
					no(w)
				}
			}
		}
	}
	for _, w := range append(immediate(), strangers(bare(t, h, raw, 2, 3))...) {
		no(w)
	}
}

// P6.2: a cell whose first field tells of more bytes than there are is refused, not read beyond its end.
func TestTextOfTooManyBytes(t *testing.T) {
	h := roomy(t)
	for n := 1; n < 128; n++ {
		w := bare(t, h, raw, 2, n)
		for _, size := range []uint64{uint64(8*(n-1)) + 1, 1 << 20, 1<<63 - 1, 1 << 63, 1<<64 - 1} {
			well(t, "Set", h.Set(w, 0, size))
			if s, e := obj.Text(h, w); s != "" || !is(e, api.ErrType) {
				t.Errorf("Text of %d fields, %d bytes = %d bytes, %v; want ErrType", n, size, len(s), e)
			}
		}
	}
	if s, e := obj.Text(h, bare(t, h, raw, 2, 0)); s != "" || !is(e, api.ErrType) {
		t.Errorf("Text of no field = %q, %v; want ErrType", s, e)
	}
}

// P6.3: Tag and Len of all cells that there may be, and of words that are none.
func TestTagAndLen(t *testing.T) {
	h := roomy(t)
	for tag := range 16 {
		for _, n := range []int{0, 1, 2, 3, 4, 7, 8, 31, 32, 120, 127} {
			for form := plain; form <= weak; form++ {
				if form == weak && n != 2 {
					continue
				}
				w := bare(t, h, form, tag, n)
				if g, m := obj.Tag(h, w), obj.Len(h, w); g != tag || m != n {
					t.Errorf("Tag, Len = %d, %d; want %d, %d", g, m, tag, n)
				}
			}
		}
	}
	for _, w := range append(immediate(), strangers(bare(t, h, plain, 1, 3))...) {
		if g, m := obj.Tag(h, w), obj.Len(h, w); g != 0 || m != 0 {
			t.Errorf("Tag, Len of %d = %d, %d; want 0, 0", w, g, m)
		}
	}
}

// asks holds what Field and SetField answer of a place: the error, or that what is set is read again.
func asks(t *testing.T, h *tread.Heap, w uint64, tag, i int, want api.Kind) {
	t.Helper()
	x, e := obj.Field(h, w, tag, i)
	if want != 0 {
		refused(t, "Field", x, e, want)
		for _, v := range []uint64{fix(3), 1} {
			refused(t, "SetField", 0, obj.SetField(h, w, tag, i, v), want)
		}
		return
	}
	well(t, "Field", e)
	for _, v := range []uint64{fix(i), word.Undef(), w} {
		well(t, "SetField", obj.SetField(h, w, tag, i, v))
		if x, e = obj.Field(h, w, tag, i); x != v || e != nil {
			t.Errorf("Field(.., %d, %d) = %d, %v; want %d", tag, i, x, e, v)
		}
	}
}

// P6.3: of all tags only the cell's own one will do; ErrType ahead of ErrIndex, ErrIndex ahead of ErrArg.
func TestField(t *testing.T) {
	h := roomy(t)
	places := []int{minInt, -2, -1, 0, 1, 2, 3, 5, 6, 7, 30, 31, 32, 119, 120, 126, 127, 128, 1 << 32, maxInt}
	tags := []int{minInt, -1, 16, 1 << 32, maxInt}
	for tag := range 16 {
		tags = append(tags, tag)
	}
	for tag := range 16 {
		for _, n := range []int{0, 1, 2, 3, 6, 31, 120} {
			w := bare(t, h, plain, tag, n)
			root(t, h, 0, w)
			for _, g := range tags {
				for _, i := range places {
					var want api.Kind
					switch {
					case g != tag:
						want = api.ErrType
					case i < 0 || i >= n:
						want = api.ErrIndex
					}
					asks(t, h, w, g, i, want)
				}
			}
		}
	}
}

// P6.3: strings have no fields that could be asked for; nor have words that are no cells.
func TestFieldOfNone(t *testing.T) {
	h := roomy(t)
	words := append(immediate(), strangers(bare(t, h, plain, 3, 3))...)
	for _, s := range []string{"", "abc", "123456789", mixedBytes(500)} {
		words = append(words, text(t, h, s))
	}
	for _, w := range words {
		for tag := -1; tag < 17; tag++ {
			for _, i := range []int{minInt, -1, 0, 1, 2, 500, maxInt} {
				asks(t, h, w, tag, i, api.ErrType)
			}
		}
	}
}

// P6.3: cells that aren't objects, nor strings, have fields as well.
func TestFieldOfOtherCells(t *testing.T) {
	h := roomy(t)
	for tag := range 16 {
		w := bare(t, h, weak, tag, 2)
		root(t, h, 0, w)
		well(t, "SetField", obj.SetField(h, w, tag, 0, fix(1)))
		refused(t, "SetField of a key that was set", 0, obj.SetField(h, w, tag, 0, fix(2)), api.ErrArg)
		if x, e := obj.Field(h, w, tag, 0); x != fix(1) || e != nil {
			t.Errorf("Field = %d, %v", x, e)
		}
		asks(t, h, w, tag, 1, 0)
		asks(t, h, w, tag, 2, api.ErrIndex)
		asks(t, h, w, tag+1, 0, api.ErrType)
		if tag == 2 {
			continue
		}
		w = bare(t, h, raw, tag, 2)
		root(t, h, 0, w)
		asks(t, h, w, tag, 1, 0)
		asks(t, h, w, tag, -1, api.ErrIndex)
		well(t, "SetField of bits", obj.SetField(h, w, tag, 1, 1))
	}
}

// P6.3: SetField sets just that field.
func TestSetField(t *testing.T) {
	h := roomy(t)
	for _, n := range []int{1, 2, 3, 7, 31, 120} {
		fields := numbers(n)
		w := build(t, h, 3, fields...)
		root(t, h, 0, w)
		for i := range n {
			fields[i] = immediate()[i%len(immediate())]
			well(t, "SetField", obj.SetField(h, w, 3, i, fields[i]))
			holds(t, h, w, 3, fields)
		}
	}
}

// P6.3: a word that may not stand there is refused, and what stood there stays.
func TestSetFieldRefuses(t *testing.T) {
	h := roomy(t)
	fields := numbers(5)
	w := build(t, h, 6, fields...)
	root(t, h, 0, w)
	for _, bad := range strangers(w) {
		for i := range fields {
			refused(t, "SetField", 0, obj.SetField(h, w, 6, i, bad), api.ErrArg)
		}
	}
	holds(t, h, w, 6, fields)
}

// listed holds what List answers.
func listed(t *testing.T, h *tread.Heap, w uint64, most int, words []uint64, want api.Kind) {
	t.Helper()
	got, e := obj.List(h, w, most)
	if !slices.Equal(got, words) || !is(e, want) {
		t.Errorf("List(%d, %d) = %v, %v; want %v, %v", w, most, got, e, words, want)
	}
}

// P6.4: the firsts of lists of all lengths, in order; at the bound, and on both sides of it.
func TestList(t *testing.T) {
	h := roomy(t)
	for _, n := range []int{0, 1, 2, 3, 7, 28, 29, 100, 400} {
		words := numbers(n)
		l := chain(t, h, word.Nil(), words...)
		for _, most := range []int{n, n + 1, 2*n + 5, 1 << 40, maxInt} {
			listed(t, h, l, most, words, 0)
		}
		for _, most := range []int{n - 1, n / 2, 1, 0, -1, minInt} {
			if most < n && n > 0 {
				listed(t, h, l, most, nil, api.ErrLong)
			}
		}
	}
	for _, most := range []int{minInt, -1, 0, 1} {
		listed(t, h, word.Nil(), most, nil, 0)
	}
}

// P6.4: ErrType, where the list's end is no empty list; but ErrLong, where there are too many pairs ahead of it.
func TestListEnds(t *testing.T) {
	h := roomy(t)
	root(t, h, 1, text(t, h, "abc"))
	root(t, h, 2, build(t, h, 3, fix(1), word.Nil()))
	root(t, h, 3, bare(t, h, raw, 1, 2))
	root(t, h, 4, bare(t, h, weak, 1, 2))
	root(t, h, 5, bare(t, h, plain, 0, 2))
	ends := immediate()
	for i := 1; i < 6; i++ {
		w, e := h.Root(i)
		well(t, "Root", e)
		ends = append(ends, w)
	}
	for _, w := range strangers(ends[len(ends)-1]) {
		listed(t, h, w, 5, nil, api.ErrType)
	}
	for _, end := range ends {
		if end == word.Nil() {
			continue
		}
		for _, n := range []int{0, 1, 2, 9} {
			l := chain(t, h, end, numbers(n)...)
			for _, most := range []int{n, n + 1, maxInt} {
				listed(t, h, l, most, nil, api.ErrType)
			}
			if n > 0 {
				listed(t, h, l, n-1, nil, api.ErrLong)
				listed(t, h, l, -3, nil, api.ErrLong)
			}
		}
	}
}

// P6.4: an object with the tag of a pair, but no second, ends no list; one with more than two fields is a pair.
func TestListOfOddPairs(t *testing.T) {
	h := roomy(t)
	for _, w := range []uint64{build(t, h, 1), build(t, h, 1, word.Nil())} {
		root(t, h, 1, w)
		listed(t, h, w, 5, nil, api.ErrType)
		listed(t, h, chain(t, h, w, numbers(3)...), 9, nil, api.ErrType)
	}
	listed(t, h, build(t, h, 1, fix(8), word.Nil(), fix(9)), 1, []uint64{fix(8)}, 0)
}

// P6.4: a list that goes round has more pairs than any number: the call ends.
func TestListThatGoesRound(t *testing.T) {
	h := roomy(t)
	for lead := range 12 {
		for round := 1; round < 20; round++ {
			ring := chain(t, h, word.Nil(), numbers(round)...)
			last := ring
			for range round - 1 {
				last, _ = obj.Field(h, last, 1, 1)
			}
			well(t, "SetField", obj.SetField(h, last, 1, 1, ring))
			l := chain(t, h, ring, numbers(lead)...)
			for _, most := range []int{minInt, 0, 1, lead + round, 1000, 1 << 40, maxInt} {
				listed(t, h, l, most, nil, api.ErrLong)
			}
		}
	}
}

// P6.4: what is answered is new memory: neither what is done with it is told of the list, nor the other way round.
func TestListIsNew(t *testing.T) {
	h := roomy(t)
	words := numbers(6)
	l := chain(t, h, word.Nil(), words...)
	a, e := obj.List(h, l, 6)
	well(t, "List", e)
	for i := range a {
		a[i] = word.Void()
	}
	listed(t, h, l, 6, words, 0)
	b, e := obj.List(h, l, 6)
	well(t, "List", e)
	well(t, "SetField", obj.SetField(h, l, 1, 0, word.Undef()))
	if !slices.Equal(b, words) {
		t.Errorf("what List answered has become %v", b)
	}
}
