package ring_test

import (
	"errors"
	"slices"
	"testing"

	"spindle/api"
	"spindle/ring"
	"spindle/store"
)

const (
	most   = 1 << 20 // the greatest place
	minInt = -1 << 63
	maxInt = 1<<63 - 1
)

// made is a store of just these words, touched as often as there are words.
func made(t *testing.T, words []uint64) *store.Store {
	t.Helper()
	s, e := store.New(len(words))
	if e != nil {
		t.Fatalf("New(%d): %v", len(words), e)
	}
	for i, w := range words {
		if e := s.Set(i, w); e != nil {
			t.Fatalf("Set(%d): %v", i, e)
		}
	}
	return s
}

// empty is a store of n words, none of which was touched.
func empty(t *testing.T, n int) *store.Store {
	t.Helper()
	s, e := store.New(n)
	if e != nil {
		t.Fatalf("New(%d): %v", n, e)
	}
	return s
}

// words are all that a store has; they are read from a copy, so that the store counts nothing of it.
func words(s *store.Store) []uint64 {
	c := s.Copy()
	l := make([]uint64, c.Size())
	for i := range l {
		l[i], _ = c.Get(i)
	}
	return l
}

// well holds that a call answered no error.
func well(t *testing.T, what string, e error) {
	t.Helper()
	if e != nil {
		t.Fatalf("%s: %v", what, e)
	}
}

// is tells whether an error is just the kind that is asked for, and no other one; 0: there is none.
func is(e error, want api.Kind) bool {
	if want == 0 {
		return e == nil
	}
	for k := api.ErrNil; k <= api.ErrUndefined; k++ {
		if errors.Is(e, k) != (k == want) {
			return false
		}
	}
	return true
}

// noPlaces are numbers that are no places: those about the bounds, and those that a plain sum would carry into the store, or beyond an int.
func noPlaces() []int {
	return []int{-1, -2, -3, -most, minInt, minInt + 1, most + 1, most + 2, 1 << 32, 1 << 61, maxInt, maxInt - 1, maxInt - 2}
}

// noLinks are words that are no places.
func noLinks() []uint64 {
	return []uint64{most + 1, most + 2, 1 << 32, 1 << 32 << 8, 1 << 61, 1 << 63, 1<<63 + 3, 1<<64 - 1, 1<<64 - 8}
}

// links are the places that the member b is linked with: the one ahead of it, and the one behind it.
func links(t *testing.T, s *store.Store, b int) (a, x int) {
	t.Helper()
	a, e := ring.Ahead(s, b)
	well(t, "Ahead", e)
	x, e = ring.Behind(s, b)
	well(t, "Behind", e)
	return a, x
}

// round holds a ring against a list: each one's next is behind it, and each one's last is ahead of it.
func round(t *testing.T, s *store.Store, l ...int) {
	t.Helper()
	for i, b := range l {
		next, last := l[(i+1)%len(l)], l[(i+len(l)-1)%len(l)]
		if a, x := links(t, s, b); x != next || a != last {
			t.Fatalf("%d: behind it %d, ahead of it %d; want %d, %d (of the ring %v)", b, x, a, next, last, l)
		}
		if one, e := ring.Alone(s, b); e != nil || one != (len(l) == 1) {
			t.Fatalf("Alone(%d) = %v, %v in the ring %v", b, one, e, l)
		}
	}
}

// The chapter's example.
func TestExample(t *testing.T) {
	s := empty(t, 12)
	for _, b := range []int{0, 3, 6, 9} {
		well(t, "Init", ring.Init(s, b))
		round(t, s, b)
	}
	well(t, "Insert", ring.Insert(s, 0, 6))
	round(t, s, 0, 6)
	well(t, "Insert", ring.Insert(s, 0, 9))
	round(t, s, 0, 9, 6)
	round(t, s, 3)
	well(t, "Join", ring.Join(s, 3, 0))
	round(t, s, 3, 9, 6)
	round(t, s, 0)
}

// P4.1: Init sets the two links, and touches nothing else.
func TestInit(t *testing.T) {
	for _, b := range []int{0, 1, 2, 5, 7} {
		s := made(t, []uint64{90, 91, 92, 93, 94, 95, 96, 97, 98, 99})
		want := words(s)
		want[b+1], want[b+2] = uint64(b), uint64(b)
		well(t, "Init", ring.Init(s, b))
		if got := words(s); !slices.Equal(got, want) {
			t.Errorf("Init(%d): %v; want %v", b, got, want)
		}
		if s.Count() != 12 {
			t.Errorf("Init(%d) touches %d words; want 2", b, s.Count()-10)
		}
	}
}

// P4.1: Init sets b + 1 ahead of b + 2: where the second one isn't there, the first one is set.
func TestInitOrder(t *testing.T) {
	s := made(t, []uint64{90, 91, 92})
	if e := ring.Init(s, 1); !is(e, api.ErrRange) {
		t.Errorf("Init(1) of three words: %v; want range", e)
	}
	if got := words(s); !slices.Equal(got, []uint64{90, 91, 1}) || s.Count() != 4 {
		t.Errorf("Init(1) of three words: %v, touched %d times", got, s.Count())
	}
	if e := ring.Init(s, 2); !is(e, api.ErrRange) || s.Count() != 4 {
		t.Errorf("Init(2) of three words: %v, touched %d times", e, s.Count())
	}
}

// P4.1: Behind, Ahead and Alone read the link that they name, by one Get, and change nothing.
func TestLinks(t *testing.T) {
	l := []uint64{7, 0, 5, most, 3, 3, 6}
	for b := 0; b+2 < len(l); b++ {
		s := made(t, l)
		a, e := ring.Ahead(s, b)
		if e != nil || a != int(l[b+1]) || s.Count() != len(l)+1 {
			t.Errorf("Ahead(%d) = %d, %v, touched %d times", b, a, e, s.Count()-len(l))
		}
		x, e := ring.Behind(s, b)
		if e != nil || x != int(l[b+2]) || s.Count() != len(l)+2 {
			t.Errorf("Behind(%d) = %d, %v, touched %d times", b, x, e, s.Count()-len(l))
		}
		one, e := ring.Alone(s, b)
		if e != nil || one != (int(l[b+2]) == b) || s.Count() != len(l)+3 {
			t.Errorf("Alone(%d) = %v, %v, touched %d times", b, one, e, s.Count()-len(l))
		}
		if got := words(s); !slices.Equal(got, l) {
			t.Errorf("looks at %d: %v; want %v", b, got, l)
		}
	}
}

// P4.1: Alone asks of Behind alone, also where the other link tells something else.
func TestAloneByBehind(t *testing.T) {
	s := made(t, []uint64{0, 0, 3, 0, 0, 3})
	if one, e := ring.Alone(s, 0); one || e != nil {
		t.Errorf("Alone(0) = %v, %v; want false: 3 is behind it", one, e)
	}
	if one, e := ring.Alone(s, 3); !one || e != nil {
		t.Errorf("Alone(3) = %v, %v; want true: it is behind itself", one, e)
	}
}

// The greatest place, 2^20, is one: as a link it is read, and handed in it is the store that has no such word.
func TestGreatestPlace(t *testing.T) {
	s := made(t, []uint64{0, most, most})
	if a, x := links(t, s, 0); a != most || x != most {
		t.Errorf("links of 0: %d, %d; want 2^20, 2^20", a, x)
	}
	big := empty(t, most)
	for name, e := range map[string]error{
		"Init":   ring.Init(big, most),
		"Insert": ring.Insert(big, most, 0),
		"Remove": ring.Remove(big, most),
		"Join":   ring.Join(big, 0, most),
	} {
		if !is(e, api.ErrRange) {
			t.Errorf("%s of 2^20: %v; want range", name, e)
		}
	}
	well(t, "Init", ring.Init(big, most-3))
	round(t, big, most-3)
}

// model is a store by the chapter's plain words: the doings of each promise, written down one by one, the first error ending them.
type model struct {
	words []uint64
	count int
	fault api.Kind
}

// get reads a link, unless an error was met.
func (m *model) get(i int) int {
	switch {
	case m.fault != 0:
		return 0
	case i >= len(m.words):
		m.fault = api.ErrRange
		return 0
	}
	m.count++
	if m.words[i] > most {
		m.fault = api.ErrArg
		return 0
	}
	return int(m.words[i])
}

// set sets a link, unless an error was met.
func (m *model) set(i, to int) {
	switch {
	case m.fault != 0:
	case i >= len(m.words):
		m.fault = api.ErrRange
	default:
		m.count++
		m.words[i] = uint64(to)
	}
}

func (m *model) init(b int) {
	m.set(b+1, b)
	m.set(b+2, b)
}

func (m *model) insert(at, b int) {
	x := m.get(at + 2)
	m.set(b+1, at)
	m.set(b+2, x)
	m.set(at+2, b)
	m.set(x+1, b)
}

func (m *model) remove(b int) {
	a := m.get(b + 1)
	x := m.get(b + 2)
	m.set(a+2, x)
	m.set(x+1, a)
	m.init(b)
}

func (m *model) join(a, b int) {
	f := m.get(b + 2)
	if m.fault != 0 || f == b {
		return
	}
	l := m.get(b + 1)
	z := m.get(a + 1)
	m.set(z+2, f)
	m.set(f+1, z)
	m.set(l+2, a)
	m.set(a+1, l)
	m.init(b)
}

// doing is a call and what the chapter says of it.
type doing struct {
	name string
	call func(s *store.Store, a, b int) error
	want func(m *model, a, b int)
}

func doings() []doing {
	return []doing{
		{"Init", func(s *store.Store, a, _ int) error { return ring.Init(s, a) }, func(m *model, a, _ int) { m.init(a) }},
		{"Insert", ring.Insert, (*model).insert},
		{"Remove", func(s *store.Store, a, _ int) error { return ring.Remove(s, a) }, func(m *model, a, _ int) { m.remove(a) }},
		{"Join", ring.Join, (*model).join},
	}
}

// same does the same to a store of these words and to its model: the error, all words, and how often they were touched are the same.
func same(t *testing.T, d doing, l []uint64, a, b int) {
	t.Helper()
	s := made(t, l)
	m := &model{words: slices.Clone(l)}
	e := d.call(s, a, b)
	d.want(m, a, b)
	count := s.Count() - len(l)
	if got := words(s); !is(e, m.fault) || !slices.Equal(got, m.words) || count != m.count {
		t.Fatalf("%s(%d, %d) of %v: %v, touched %d times, error %v; want %v, %d, %v", d.name, a, b, l, got, count, e, m.words, m.count, m.fault)
	}
	if count > 10 {
		t.Fatalf("%s(%d, %d) of %v touches %d words", d.name, a, b, l, count)
	}
}

// P4.1 to P4.5: at all places of small stores, whatever their words say (rings or not, with links out of the store and links that are none), each doing is done in its order, up to the first error. Members that lie on one another tell the order of the doings.
func TestDoings(t *testing.T) {
	x := uint64(1)
	for k := range 400 {
		n := k % 10
		l := make([]uint64, n)
		for i := range l {
			x = x*6364136223846793005 + 1442695040888963407
			l[i] = x >> 33 % uint64(n+1)
			if x>>60 == 0 {
				l[i] = noLinks()[x>>40%uint64(len(noLinks()))]
			}
		}
		for a := range n + 2 {
			for b := range n + 2 {
				for _, d := range doings() {
					same(t, d, l, a, b)
				}
			}
		}
	}
}

// cut is a call of a store that ends amid what the call does.
type cut struct {
	name  string
	words []uint64
	call  func(s *store.Store, a, b int) error
	want  []uint64 // what the words are behind it
	count int      // of the touches that went well
}

// P4.5: the first error of the store ends a call; what was done ahead of it stays.
func TestWhatStays(t *testing.T) {
	for _, c := range []cut{
		{"Insert: no b + 1", []uint64{0, 3, 3, 0}, ring.Insert, []uint64{0, 3, 3, 0}, 1},
		{"Insert: no b + 2", []uint64{0, 3, 3, 0, 7}, ring.Insert, []uint64{0, 3, 3, 0, 0}, 2},
		{"Insert: no x + 1", []uint64{0, 9, 9, 0, 0, 0}, ring.Insert, []uint64{0, 9, 3, 0, 0, 9}, 4},
		{"Join: no z + 2", []uint64{0, 9, 0, 0, 4, 1}, ring.Join, []uint64{0, 9, 0, 0, 4, 1}, 3},
		{"Join: no f + 1", []uint64{0, 0, 0, 0, 4, 8}, ring.Join, []uint64{0, 0, 8, 0, 4, 8}, 4},
		{"Join: no l + 2", []uint64{0, 0, 0, 8, 7, 2}, ring.Join, []uint64{0, 0, 2, 0, 7, 2}, 5},
	} {
		s := made(t, c.words)
		e := c.call(s, 0, 3)
		count := s.Count() - len(c.words)
		if got := words(s); !is(e, api.ErrRange) || !slices.Equal(got, c.want) || count != c.count {
			t.Errorf("%s: %v, touched %d times, error %v; want %v, %d, range", c.name, got, count, e, c.want, c.count)
		}
	}
}

// Places that are none, handed in: refused, as that and as nothing else, and no word is changed.
func TestNoPlaces(t *testing.T) {
	l := []uint64{0, 3, 3, 0, 0, 0}
	for _, b := range noPlaces() {
		s := made(t, l)
		refuses(t, s, b, api.ErrArg)
		if e := ring.Insert(s, 0, b); !is(e, api.ErrArg) {
			t.Errorf("Insert(0, %d): %v; want argument", b, e)
		}
		if e := ring.Insert(s, b, 0); !is(e, api.ErrArg) {
			t.Errorf("Insert(%d, 0): %v; want argument", b, e)
		}
		if e := ring.Join(s, 0, b); !is(e, api.ErrArg) {
			t.Errorf("Join(0, %d): %v; want argument", b, e)
		}
		if e := ring.Join(s, b, 0); !is(e, api.ErrArg) {
			t.Errorf("Join(%d, 0): %v; want argument", b, e)
		}
		if got := words(s); !slices.Equal(got, l) {
			t.Errorf("calls of %d: %v; want %v", b, got, l)
		}
	}
}

// refuses holds that the calls of one place answer that error, and beside it nothing.
func refuses(t *testing.T, s *store.Store, b int, want api.Kind) {
	t.Helper()
	if e := ring.Init(s, b); !is(e, want) {
		t.Errorf("Init(%d): %v; want %v", b, e, want)
	}
	if e := ring.Remove(s, b); !is(e, want) {
		t.Errorf("Remove(%d): %v; want %v", b, e, want)
	}
	if a, e := ring.Ahead(s, b); a != 0 || !is(e, want) {
		t.Errorf("Ahead(%d) = %d, %v; want 0, %v", b, a, e, want)
	}
	if x, e := ring.Behind(s, b); x != 0 || !is(e, want) {
		t.Errorf("Behind(%d) = %d, %v; want 0, %v", b, x, e, want)
	}
	if one, e := ring.Alone(s, b); one || !is(e, want) {
		t.Errorf("Alone(%d) = %v, %v; want false, %v", b, one, e, want)
	}
}

// Links that are none: refused where they are read, ahead of all that is set.
func TestNoLinks(t *testing.T) {
	for _, w := range noLinks() {
		bad := []struct {
			name  string
			l     []uint64
			call  func(s *store.Store) error
			count int
		}{
			{"Ahead", []uint64{0, w, 0}, func(s *store.Store) error { _, e := ring.Ahead(s, 0); return e }, 1},
			{"Behind", []uint64{0, 0, w}, func(s *store.Store) error { _, e := ring.Behind(s, 0); return e }, 1},
			{"Alone", []uint64{0, 0, w}, func(s *store.Store) error { _, e := ring.Alone(s, 0); return e }, 1},
			{"Insert", []uint64{0, 0, w, 3, 3, 3}, func(s *store.Store) error { return ring.Insert(s, 0, 3) }, 1},
			{"Remove: ahead", []uint64{0, w, 0}, func(s *store.Store) error { return ring.Remove(s, 0) }, 1},
			{"Remove: behind", []uint64{0, 0, w}, func(s *store.Store) error { return ring.Remove(s, 0) }, 2},
			{"Join: behind b", []uint64{0, 0, 0, 3, 3, w}, func(s *store.Store) error { return ring.Join(s, 0, 3) }, 1},
			{"Join: ahead of b", []uint64{0, 0, 0, 3, w, 0}, func(s *store.Store) error { return ring.Join(s, 0, 3) }, 2},
			{"Join: ahead of a", []uint64{0, w, 0, 3, 0, 0}, func(s *store.Store) error { return ring.Join(s, 0, 3) }, 3},
		}
		for _, c := range bad {
			s := made(t, c.l)
			e := c.call(s)
			if got := words(s); !is(e, api.ErrArg) || !slices.Equal(got, c.l) || s.Count() != len(c.l)+c.count {
				t.Errorf("%s, a link %d: %v, touched %d times, error %v; want %v, %d, argument", c.name, w, got, s.Count()-len(c.l), e, c.l, c.count)
			}
		}
	}
}

// Beside the error of a link that is none, nothing else is answered.
func TestNothingBesideNoLink(t *testing.T) {
	for _, w := range noLinks() {
		s := made(t, []uint64{w, w, w})
		if a, e := ring.Ahead(s, 0); a != 0 || !is(e, api.ErrArg) {
			t.Errorf("Ahead, a link %d: %d, %v; want 0, argument", w, a, e)
		}
		if x, e := ring.Behind(s, 0); x != 0 || !is(e, api.ErrArg) {
			t.Errorf("Behind, a link %d: %d, %v; want 0, argument", w, x, e)
		}
		if one, e := ring.Alone(s, 0); one || !is(e, api.ErrArg) {
			t.Errorf("Alone, a link %d: %v, %v; want false, argument", w, one, e)
		}
	}
}

// A link that isn't asked for may be anything: each looks at its own one.
func TestLinksOfOthers(t *testing.T) {
	s := made(t, []uint64{1<<64 - 1, 5, 1<<64 - 1, 0})
	if a, e := ring.Ahead(s, 0); a != 5 || e != nil {
		t.Errorf("Ahead(0) = %d, %v; want 5", a, e)
	}
	if x, e := ring.Behind(s, 1); x != 0 || e != nil {
		t.Errorf("Behind(1) = %d, %v; want 0", x, e)
	}
}

// P4.4: who is alone has nobody to bring along: one Get, and nothing is changed, whatever the other links say.
func TestJoinAlone(t *testing.T) {
	for _, l := range [][]uint64{{0, 0, 0, 3, 3, 3}, {0, 0, 0, 3, 1<<64 - 1, 3}, {0, 1 << 63, 1 << 63, 3, 3, 3}} {
		s := made(t, l)
		well(t, "Join", ring.Join(s, 0, 3))
		if got := words(s); !slices.Equal(got, l) || s.Count() != len(l)+1 {
			t.Errorf("Join of %v: %v, touched %d times", l, got, s.Count()-len(l))
		}
	}
}

// P4.5: nobody's store: refused as that, at whatever place that may be one.
func TestNil(t *testing.T) {
	for _, b := range []int{0, 1, 3, most - 1, most} {
		refuses(t, nil, b, api.ErrNil)
		for name, e := range map[string]error{"Insert": ring.Insert(nil, b, 0), "Join": ring.Join(nil, b, 0), "Join with itself": ring.Join(nil, b, b)} {
			if !is(e, api.ErrNil) {
				t.Errorf("%s: %v; want nil", name, e)
			}
		}
	}
}

// P4.5: a store without words, and places behind a store's end: the store's own error.
func TestPlacesOutside(t *testing.T) {
	for _, n := range []int{0, 1, 3, 6} {
		s := empty(t, n)
		for _, b := range []int{n, n + 1, n + 7, most} {
			refuses(t, s, b, api.ErrRange)
			if e := ring.Insert(s, b, b); !is(e, api.ErrRange) {
				t.Errorf("Insert(%d, %d) of %d words: %v; want range", b, b, n, e)
			}
			if e := ring.Join(s, b, b); !is(e, api.ErrRange) {
				t.Errorf("Join(%d, %d) of %d words: %v; want range", b, b, n, e)
			}
		}
		if s.Count() != 0 {
			t.Errorf("a store of %d words was touched %d times", n, s.Count())
		}
	}
}

// P4.6: however long a ring is, a call touches the same few words, and the others stand as they did.
func TestLongRings(t *testing.T) {
	const n = 5000
	s := empty(t, 3*(n+2))
	first, second := 3*n, 3*(n+1)
	well(t, "Init", ring.Init(s, first))
	well(t, "Init", ring.Init(s, second))
	want := []int{first}
	for i := range n {
		well(t, "Init", ring.Init(s, 3*i))
		touches(t, s, "Insert", 5, func() error { return ring.Insert(s, first, 3*i) })
		want = append(want, 3*(n-1-i))
	}
	round(t, s, want...)
	touches(t, s, "Join", 9, func() error { return ring.Join(s, second, first) })
	want[0] = second
	round(t, s, want...)
	round(t, s, first)
	touches(t, s, "Join", 1, func() error { return ring.Join(s, second, first) })
	touches(t, s, "Remove", 6, func() error { return ring.Remove(s, want[n/2]) })
	round(t, s, want[n/2])
	round(t, s, slices.Delete(want, n/2, n/2+1)...)
}

// touches holds that a call goes well, and how many words it touches.
func touches(t *testing.T, s *store.Store, name string, want int, call func() error) {
	t.Helper()
	before := s.Count()
	well(t, name, call())
	if n := s.Count() - before; n != want {
		t.Fatalf("%s touches %d words; want %d", name, n, want)
	}
}

// rings are members told apart by the rings in which they stand: of each, what stands behind its first one, one behind the other.
type rings [][]int

// find is the ring of a member, and where it stands there.
func (r rings) find(b int) (i, j int) {
	for i, l := range r {
		if j := slices.Index(l, b); j >= 0 {
			return i, j
		}
	}
	return -1, -1
}

// without takes a member out of its ring.
func (r rings) without(b int) rings {
	i, j := r.find(b)
	r[i] = slices.Delete(r[i], j, j+1)
	if len(r[i]) == 0 {
		r = slices.Delete(r, i, i+1)
	}
	return r
}

// inserted moves a member that is alone behind another one.
func (r rings) inserted(at, b int) rings {
	r = r.without(b)
	i, j := r.find(at)
	r[i] = slices.Insert(r[i], j+1, b)
	return r
}

// joined moves all that stand in a ring with b, from the one behind b on, to between a and what was ahead of it.
func (r rings) joined(a, b int) rings {
	i, j := r.find(b)
	moved := append(slices.Clone(r[i][j+1:]), r[i][:j]...)
	r[i] = []int{b}
	i, j = r.find(a)
	r[i] = slices.Insert(slices.Clone(r[i]), j, moved...)
	return r
}

// P4.2, P4.3, P4.4, P4.6: rings stay rings, and stand as lists do that are told the same.
func TestAgainstLists(t *testing.T) {
	const n = 12
	s := empty(t, 3*n)
	var r rings
	for i := range n {
		well(t, "Init", ring.Init(s, 3*i))
		r = append(r, []int{3 * i})
	}
	x := uint64(7)
	for range 6000 {
		x = x*6364136223846793005 + 1442695040888963407
		a, b := 3*int(x>>33%n), 3*int(x>>45%n)
		i, _ := r.find(a)
		j, _ := r.find(b)
		switch {
		case i == j || x>>61 < 2:
			touches(t, s, "Remove", 6, func() error { return ring.Remove(s, b) })
			r = append(r.without(b), []int{b})
		case len(r[j]) == 1:
			touches(t, s, "Insert", 5, func() error { return ring.Insert(s, a, b) })
			r = r.inserted(a, b)
		default:
			touches(t, s, "Join", 9, func() error { return ring.Join(s, a, b) })
			r = r.joined(a, b)
		}
		for _, l := range r {
			round(t, s, l...)
		}
	}
}
