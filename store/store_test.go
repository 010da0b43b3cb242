package store_test

import (
	"errors"
	"slices"
	"testing"

	"spindle/api"
	"spindle/store"
)

const (
	maxWords = 1 << 20
	minInt   = -1 << 63
	maxInt   = 1<<63 - 1
)

// made is a store that there must be.
func made(t *testing.T, n int) *store.Store {
	t.Helper()
	s, e := store.New(n)
	if s == nil || e != nil {
		t.Fatalf("New(%d) = %v, %v; want a store", n, s, e)
	}
	return s
}

// get is a word that there must be.
func get(t *testing.T, s *store.Store, i int) uint64 {
	t.Helper()
	w, e := s.Get(i)
	if e != nil {
		t.Errorf("Get(%d): %v", i, e)
	}
	return w
}

// set sets a word that there must be.
func set(t *testing.T, s *store.Store, i int, w uint64) {
	t.Helper()
	if e := s.Set(i, w); e != nil {
		t.Errorf("Set(%d, %d): %v", i, w, e)
	}
}

// counted holds the count against what it must be.
func counted(t *testing.T, s *store.Store, want int) {
	t.Helper()
	if n := s.Count(); n != want {
		t.Errorf("Count() = %d; want %d", n, want)
	}
}

// outside are places that a store of n words hasn't: those about its bounds, and those that narrower numbers take for a place.
func outside(n int) []int {
	return []int{-1, -2, -n, -n - 1, n, n + 1, n + 7, 2*n + 1, maxWords, maxWords + 1, 1 << 31, 1 << 32, -1 << 32, 1 << 61, 1 << 62, minInt, minInt + 1, maxInt, maxInt - 1}
}

// wideWords are words of all looks: none of their bits may be lost.
func wideWords() []uint64 {
	return []uint64{0, 1, 7, 8, 17, 522, 1 << 31, 1<<32 + 5, 1 << 60, 1 << 63, 1<<63 - 1, 1<<64 - 8, 1<<64 - 1}
}

// refuses holds that neither a word outside is read nor set, with the error that is asked for and no other one.
func refuses(t *testing.T, s *store.Store, i int, want api.Kind) {
	t.Helper()
	w, e := s.Get(i)
	if w != 0 || !errors.Is(e, want) {
		t.Errorf("Get(%d) = %d, %v; want 0, %v", i, w, e, want)
	}
	if e := s.Set(i, 1<<64-1); !errors.Is(e, want) {
		t.Errorf("Set(%d): %v; want %v", i, e, want)
	}
}

// The chapter's example.
func TestExample(t *testing.T) {
	s := made(t, 2)
	set(t, s, 1, 7)
	if w := get(t, s, 1); w != 7 {
		t.Errorf("Get(1) = %d; want 7", w)
	}
	if w, e := s.Get(2); w != 0 || !errors.Is(e, api.ErrRange) {
		t.Errorf("Get(2) = %d, %v; want 0, range", w, e)
	}
	counted(t, s, 2)
}

// P3.1: sizes, up to their bounds: as many words as were asked for, all 0, none touched.
func TestNew(t *testing.T) {
	for _, n := range []int{0, 1, 2, 3, 51, 4096, maxWords - 1, maxWords} {
		s := made(t, n)
		counted(t, s, 0)
		if got := s.Size(); got != n {
			t.Errorf("New(%d): Size() = %d", n, got)
		}
		for i := range n {
			if w, e := s.Get(i); w != 0 || e != nil {
				t.Fatalf("New(%d): Get(%d) = %d, %v; want 0", n, i, w, e)
			}
		}
		counted(t, s, n)
	}
}

// P3.1: sizes that may not be.
func TestNewErrors(t *testing.T) {
	for _, n := range []int{-1, -2, -maxWords, maxWords + 1, 2 * maxWords, 1 << 32, -1 << 32, 1 << 61, 1 << 62, minInt, maxInt} {
		s, e := store.New(n)
		if s != nil || !errors.Is(e, api.ErrArg) {
			t.Errorf("New(%d) = %v, %v; want nil, argument", n, s, e)
		}
		if errors.Is(e, api.ErrRange) || errors.Is(e, api.ErrNil) {
			t.Errorf("New(%d): %v is another kind too", n, e)
		}
	}
}

// P3.1: what was set is there, whole, and nowhere else; what is set again is the last one.
func TestWords(t *testing.T) {
	const n = 9
	s := made(t, n)
	want := make([]uint64, n)
	for _, w := range wideWords() {
		for i := range n {
			set(t, s, i, w+uint64(i))
			want[i] = w + uint64(i)
			for j := range n {
				if got := get(t, s, j); got != want[j] {
					t.Fatalf("Set(%d, %d), Get(%d) = %d; want %d", i, want[i], j, got, want[j])
				}
			}
		}
	}
	if got := s.Size(); got != n {
		t.Errorf("Size() = %d; want %d", got, n)
	}
}

// P3.1: the greatest store's first and last word.
func TestGreatestStore(t *testing.T) {
	s := made(t, maxWords)
	set(t, s, 0, 5)
	set(t, s, maxWords-1, 1<<64-1)
	if w := get(t, s, 0); w != 5 {
		t.Errorf("Get(0) = %d; want 5", w)
	}
	if w := get(t, s, maxWords-1); w != 1<<64-1 {
		t.Errorf("Get(%d) = %d; want 2^64 - 1", maxWords-1, w)
	}
	refuses(t, s, maxWords, api.ErrRange)
	counted(t, s, 4)
}

// P3.1, P3.2: places that aren't there: refused, as that and as nothing else, not counted, and nothing is changed by it.
func TestPlacesOutside(t *testing.T) {
	for _, n := range []int{0, 1, 2, 5, 64} {
		s := made(t, n)
		for i := range n {
			set(t, s, i, uint64(i)+100)
		}
		for _, i := range outside(n) {
			if i >= 0 && i < n {
				continue
			}
			refuses(t, s, i, api.ErrRange)
			if e := s.Set(i, 1); errors.Is(e, api.ErrArg) || errors.Is(e, api.ErrNil) {
				t.Errorf("Set(%d): %v is another kind too", i, e)
			}
		}
		counted(t, s, n)
		for i := range n {
			if w := get(t, s, i); w != uint64(i)+100 {
				t.Errorf("Get(%d) = %d; want %d", i, w, i+100)
			}
		}
	}
}

// P3.2: each call of Get and Set that is answered counts one, also of the same word and with the same word; no other call counts.
func TestCount(t *testing.T) {
	s := made(t, 4)
	want := 0
	for range 3 {
		for i := range 4 {
			set(t, s, i, 7)
			want++
			counted(t, s, want)
			get(t, s, i)
			want++
			counted(t, s, want)
		}
		s.Size()
		s.Count()
		s.Copy()
		refuses(t, s, 4, api.ErrRange)
		refuses(t, s, -1, api.ErrRange)
		counted(t, s, want)
	}
}

// P3.3: a copy has the same words and the same count; what happens to one of them afterwards, the other doesn't know.
func TestCopy(t *testing.T) {
	s := made(t, 3)
	for i := range 3 {
		set(t, s, i, uint64(i)+1)
	}
	c := s.Copy()
	if c == nil || c == s || c.Size() != 3 {
		t.Fatalf("Copy() = %v of %v", c, s)
	}
	counted(t, c, 3)
	set(t, s, 0, 10)
	set(t, c, 1, 20)
	get(t, c, 1)
	counted(t, s, 4)
	counted(t, c, 5)
	for i, want := range [][2]uint64{{10, 1}, {2, 20}, {3, 3}} {
		if a, b := get(t, s, i), get(t, c, i); a != want[0] || b != want[1] {
			t.Errorf("word %d: %d, of the copy %d; want %d, %d", i, a, b, want[0], want[1])
		}
	}
	refuses(t, c, 3, api.ErrRange)
}

// P3.3: copies of the least and of the greatest, and of a copy.
func TestCopySizes(t *testing.T) {
	for _, n := range []int{0, 1, 7, 1000, maxWords} {
		s := made(t, n)
		if n > 0 {
			set(t, s, n-1, 9)
		}
		c := s.Copy().Copy()
		if c == nil || c.Size() != n || c.Count() != s.Count() {
			t.Fatalf("a copy of a copy of %d words: %d words, touched %d times", n, c.Size(), c.Count())
		}
		refuses(t, c, n, api.ErrRange)
		if n > 0 {
			if w := get(t, c, n-1); w != 9 {
				t.Errorf("Get(%d) = %d; want 9", n-1, w)
			}
		}
	}
}

// P3.3: of nobody's store nothing is told, at whatever place.
func TestNil(t *testing.T) {
	var s *store.Store
	for _, i := range append(outside(5), 0, 1, 4) {
		refuses(t, s, i, api.ErrNil)
		if _, e := s.Get(i); errors.Is(e, api.ErrRange) {
			t.Errorf("Get(%d): %v is another kind too", i, e)
		}
	}
	if s.Size() != 0 || s.Count() != 0 {
		t.Errorf("Size() = %d, Count() = %d; want 0, 0", s.Size(), s.Count())
	}
	if c := s.Copy(); c != nil {
		t.Errorf("Copy() = %v; want nil", c)
	}
}

// A store that New didn't make is one without words.
func TestStoreOfNobody(t *testing.T) {
	var s store.Store
	refuses(t, &s, 0, api.ErrRange)
	refuses(t, s.Copy(), 0, api.ErrRange)
	if s.Size() != 0 || s.Count() != 0 {
		t.Errorf("Size() = %d, Count() = %d; want 0, 0", s.Size(), s.Count())
	}
}

// model is what a store is, by the chapter's plain words.
type model struct {
	words []uint64
	count int
}

// step does the same to a store and to its model, and holds the answers against each other.
func step(t *testing.T, s *store.Store, m *model, i int, w uint64, read bool) {
	t.Helper()
	there := i >= 0 && i < len(m.words)
	if !there {
		refuses(t, s, i, api.ErrRange)
		return
	}
	m.count++
	if !read {
		m.words[i] = w
		set(t, s, i, w)
	} else if got := get(t, s, i); got != m.words[i] {
		t.Errorf("Get(%d) = %d; want %d", i, got, m.words[i])
	}
}

// P3.1, P3.2, P3.3: stores and copies of them, amid one another, are as their models are.
func TestAgainstModel(t *testing.T) {
	const n = 33
	stores := []*store.Store{made(t, n)}
	models := []*model{{words: make([]uint64, n)}}
	x := uint64(1)
	for k := range 20000 {
		x = x*6364136223846793005 + 1442695040888963407
		j := int(x>>40) % len(stores)
		step(t, stores[j], models[j], int(x>>33)%(n+4)-2, x, x>>62 == 0)
		if k%2000 == 1999 {
			stores = append(stores, stores[j].Copy())
			models = append(models, &model{slices.Clone(models[j].words), models[j].count})
		}
	}
	for j, s := range stores {
		counted(t, s, models[j].count)
		for i, want := range models[j].words {
			if got := get(t, s, i); got != want {
				t.Errorf("store %d: Get(%d) = %d; want %d", j, i, got, want)
			}
		}
	}
}
