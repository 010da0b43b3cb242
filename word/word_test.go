package word_test

import (
	"errors"
	"testing"

	"spindle/api"
	"spindle/word"
)

// maker is a call that makes words of numbers from least to most, of one kind and tag.
type maker struct {
	name        string
	make        func(int) (uint64, error)
	kind        int
	tag         uint64
	least, most int
	fault       api.Kind
}

const (
	minFix = -1 << 60
	maxFix = 1<<60 - 1
	minInt = -1 << 63
	maxInt = 1<<63 - 1
)

func makers() []maker {
	return []maker{
		{"Fix", word.Fix, 1, 0, minFix, maxFix, api.ErrOverflow},
		{"Cell", word.Cell, 2, 1, 0, 1 << 40, api.ErrArg},
		{"Char", word.Char, 3, 2, 0, 255, api.ErrArg},
		{"Symbol", word.Symbol, 8, 5, 0, 4095, api.ErrArg},
		{"Prim", word.Prim, 9, 6, 0, 255, api.ErrArg},
	}
}

// edges are numbers about every bound that the chapter names, and some between.
func edges() []int {
	var l []int
	for _, n := range []int{minInt, minFix, -(1 << 40), -4096, -256, 0, 65, 255, 1000, 4095, 1 << 20, 1 << 30, 1 << 40, 1<<40 + 255, 1 << 59, 1 << 60, 1 << 61, 1<<61 + 65, 1 << 62, maxInt} {
		for d := -3; d <= 3; d++ {
			if (d < 0 && n < minInt-d) || (d > 0 && n > maxInt-d) {
				continue
			}
			l = append(l, n+d)
		}
	}
	return l
}

// wordOf is a word, put together by the chapter's own arithmetic.
func wordOf(tag uint64, n int) uint64 { return uint64(n)*8 + tag }

// P1.1: the words that the chapter gives as numbers.
func TestMadeWords(t *testing.T) {
	made := []struct {
		name string
		make func(int) (uint64, error)
		n    int
		want uint64
	}{
		{"Fix", word.Fix, 0, 0},
		{"Fix", word.Fix, 1, 8},
		{"Fix", word.Fix, -1, 1<<64 - 8},
		{"Fix", word.Fix, maxFix, 1<<63 - 8},
		{"Fix", word.Fix, minFix, 1 << 63},
		{"Cell", word.Cell, 0, 1},
		{"Cell", word.Cell, 2, 17},
		{"Cell", word.Cell, 1 << 40, 1<<43 + 1},
		{"Char", word.Char, 0, 2},
		{"Char", word.Char, 65, 522},
		{"Char", word.Char, 255, 2042},
		{"Symbol", word.Symbol, 0, 5},
		{"Symbol", word.Symbol, 4095, 32765},
		{"Prim", word.Prim, 0, 6},
		{"Prim", word.Prim, 255, 2046},
	}
	for _, m := range made {
		if w, e := m.make(m.n); w != m.want || e != nil {
			t.Errorf("%s(%d) = %d, %v; want %d", m.name, m.n, w, e, m.want)
		}
	}
	for _, s := range []struct {
		name      string
		got, want uint64
	}{
		{"Bool(false)", word.Bool(false), 3},
		{"Bool(true)", word.Bool(true), 11},
		{"Nil()", word.Nil(), 4},
		{"Void()", word.Void(), 12},
		{"Undef()", word.Undef(), 20},
	} {
		if s.got != s.want {
			t.Errorf("%s = %d; want %d", s.name, s.got, s.want)
		}
	}
}

// P1.1: at each bound, on both sides of it, either the word or the error.
func TestMakersBounds(t *testing.T) {
	for _, m := range makers() {
		for _, n := range edges() {
			w, e := m.make(n)
			if n < m.least || n > m.most {
				if w != 0 || !errors.Is(e, m.fault) {
					t.Errorf("%s(%d) = %d, %v; want 0, %v", m.name, n, w, e, m.fault)
				}
				continue
			}
			if want := wordOf(m.tag, n); w != want || e != nil {
				t.Errorf("%s(%d) = %d, %v; want %d", m.name, n, w, e, want)
			}
		}
	}
}

// P1.1: the kinds of an error are told apart: what overflows is no wrong argument, nor the other way round.
func TestMakersErrors(t *testing.T) {
	if _, e := word.Fix(1 << 60); errors.Is(e, api.ErrArg) {
		t.Error("Fix: ErrArg")
	}
	for _, m := range makers()[1:] {
		if _, e := m.make(-1); errors.Is(e, api.ErrOverflow) {
			t.Errorf("%s: ErrOverflow", m.name)
		}
	}
}

// kindOf is the chapter's list of kinds, word for word.
func kindOf(tag uint64, n int) int {
	switch {
	case tag == 0:
		return 1
	case tag == 1 && n >= 0 && n <= 1<<40:
		return 2
	case tag == 2 && n >= 0 && n <= 255:
		return 3
	case tag == 3 && (n == 0 || n == 1):
		return 4
	case tag == 4 && n >= 0 && n <= 2:
		return 5 + n
	case tag == 5 && n >= 0 && n <= 4095:
		return 8
	case tag == 6 && n >= 0 && n <= 255:
		return 9
	}
	return 0
}

// checkWord holds a word's kind, number and truth against the chapter's.
func checkWord(t *testing.T, tag uint64, n int) {
	t.Helper()
	w, kind, value := wordOf(tag, n), kindOf(tag, n), n
	if kind == 0 {
		value = 0
	}
	if got := word.Kind(w); got != kind {
		t.Errorf("Kind(%d) (tag %d, number %d) = %d; want %d", w, tag, n, got, kind)
	}
	if got := word.Value(w); got != value {
		t.Errorf("Value(%d) (tag %d, number %d) = %d; want %d", w, tag, n, got, value)
	}
	if got, want := word.True(w), !(tag == 3 && n == 0); got != want {
		t.Errorf("True(%d) (tag %d, number %d) = %v", w, tag, n, got)
	}
}

// P1.2: all tags, at all the bounds of all kinds; words that are none have no number, but count as true.
func TestAnyWords(t *testing.T) {
	for tag := uint64(0); tag < 8; tag++ {
		for _, n := range edges() {
			if n >= minFix && n <= maxFix {
				checkWord(t, tag, n)
			}
		}
		for n := -20; n < 5000; n++ {
			checkWord(t, tag, n)
		}
	}
}

// P1.2: words all over the sixty-four bits.
func TestScatteredWords(t *testing.T) {
	w := uint64(1)
	for i := 0; i < 20000; i++ {
		w = w*6364136223846793005 + 1442695040888963407
		for _, x := range []uint64{w, w >> 20, w >> 45, w >> 54, ^(w >> 50)} {
			checkWord(t, x%8, int(int64(x)>>3))
		}
	}
}

// P1.2: single words, by the numbers that the chapter gives them.
func TestKindsOfWords(t *testing.T) {
	for _, c := range []struct {
		w           uint64
		kind, value int
	}{
		{0, 1, 0}, {8, 1, 1}, {1<<64 - 8, 1, -1}, {1<<63 - 8, 1, maxFix}, {1 << 63, 1, minFix},
		{1, 2, 0}, {17, 2, 2}, {1<<43 + 1, 2, 1 << 40}, {1<<43 + 9, 0, 0}, {1<<64 - 7, 0, 0},
		{2, 3, 0}, {522, 3, 65}, {2042, 3, 255}, {2050, 0, 0}, {1<<64 - 6, 0, 0},
		{3, 4, 0}, {11, 4, 1}, {19, 0, 0}, {1<<64 - 5, 0, 0},
		{4, 5, 0}, {12, 6, 1}, {20, 7, 2}, {28, 0, 0}, {1<<64 - 4, 0, 0},
		{5, 8, 0}, {32765, 8, 4095}, {32773, 0, 0}, {1<<64 - 3, 0, 0},
		{6, 9, 0}, {2046, 9, 255}, {2054, 0, 0}, {1<<64 - 2, 0, 0},
		{7, 0, 0}, {15, 0, 0}, {1<<64 - 1, 0, 0},
	} {
		if k, v := word.Kind(c.w), word.Value(c.w); k != c.kind || v != c.value {
			t.Errorf("word %d: kind %d, number %d; want %d, %d", c.w, k, v, c.kind, c.value)
		}
	}
}

// P1.2: nothing but false is false: neither 0, nor the empty list, nor a word that is none.
func TestTruth(t *testing.T) {
	if word.True(word.Bool(false)) {
		t.Error("false is true")
	}
	for _, w := range []uint64{0, 1, 2, 4, 5, 6, 7, 11, 12, 19, 20, 28, 1<<64 - 5, 1<<64 - 1, 1<<63 + 3} {
		if !word.True(w) {
			t.Errorf("True(%d) is false", w)
		}
	}
}

// thing is what a word is made of.
type thing struct{ kind, n int }

// P1.3: what a word was made of is told of it again, and no two things make one word.
func TestWordsAreOfOneThing(t *testing.T) {
	seen := map[uint64]thing{}
	note := func(w uint64, x thing) {
		t.Helper()
		if k, v := word.Kind(w), word.Value(w); k != x.kind || v != x.n {
			t.Errorf("word %d made of %v tells kind %d, number %d", w, x, k, v)
		}
		if y, ok := seen[w]; ok && y != x {
			t.Errorf("word %d is made of %v and of %v", w, x, y)
		}
		seen[w] = x
	}
	note(word.Bool(false), thing{4, 0})
	note(word.Bool(true), thing{4, 1})
	note(word.Nil(), thing{5, 0})
	note(word.Void(), thing{6, 1})
	note(word.Undef(), thing{7, 2})
	numbers := edges()
	for n := -100; n < 5000; n++ {
		numbers = append(numbers, n)
	}
	for _, m := range makers() {
		for _, n := range numbers {
			if w, e := m.make(n); e == nil {
				note(w, thing{m.kind, n})
			}
		}
	}
}

// P1.3: a word of a kind is made again of its kind and number alone.
func TestWordsAreMadeAgain(t *testing.T) {
	again := func(kind, n int) (uint64, error) {
		for _, m := range makers() {
			if m.kind == kind {
				return m.make(n)
			}
		}
		switch kind {
		case 4:
			return word.Bool(n == 1), nil
		case 5:
			return word.Nil(), nil
		case 6:
			return word.Void(), nil
		}
		return word.Undef(), nil
	}
	for tag := uint64(0); tag < 8; tag++ {
		for _, n := range edges() {
			w := wordOf(tag, n)
			k := word.Kind(w)
			if k == 0 {
				continue
			}
			if x, e := again(k, word.Value(w)); x != w || e != nil {
				t.Errorf("word %d of the kind %d is made again as %d, %v", w, k, x, e)
			}
		}
	}
}
