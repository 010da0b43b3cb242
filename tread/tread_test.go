package tread_test

import (
	"errors"
	"testing"

	"spindle/api"
	"spindle/tread"
	"spindle/word"
)

const (
	plain = 1
	raw   = 2
	weak  = 3

	minInt = -1 << 63
	maxInt = 1<<63 - 1

	pause = 2200 // words that a call may touch
)

// counts are cells of each size.
type counts = [api.Classes]int

// same are so many cells of each size.
func same(n int) counts { return counts{n, n, n, n} }

// made is a heap.
func made(t *testing.T, c counts, k int) *tread.Heap {
	t.Helper()
	h, e := tread.New(c, k)
	if e != nil || h == nil {
		t.Fatalf("New(%v, %d): %v, %v", c, k, h, e)
	}
	return h
}

// well holds that a call answered no error.
func well(t *testing.T, what string, e error) {
	t.Helper()
	if e != nil {
		t.Fatalf("%s: %v", what, e)
	}
}

// is tells whether an error is just the kind that is asked for, and no other one; 0: there is none.
func is(e error, want api.Kind) bool {
	if want == 0 {
		return e == nil
	}
	for k := api.ErrNil; k <= api.ErrUndefined; k++ {
		if errors.Is(e, k) != (k == want) {
			return false
		}
	}
	return true
}

// alloc is a cell that is had now. It stands in no register yet.
func alloc(t *testing.T, h *tread.Heap, form, n int) uint64 {
	t.Helper()
	c, e := h.Alloc(form, 5, n)
	if e != nil || word.Kind(c) != 2 {
		t.Fatalf("Alloc(%d, 5, %d) = %d, %v", form, n, c, e)
	}
	return c
}

// rooted is a cell that stands in the register r.
func rooted(t *testing.T, h *tread.Heap, r, form, n int) uint64 {
	t.Helper()
	c := alloc(t, h, form, n)
	root(t, h, r, c)
	return c
}

func root(t *testing.T, h *tread.Heap, r int, w uint64) {
	t.Helper()
	well(t, "SetRoot", h.SetRoot(r, w))
}

func set(t *testing.T, h *tread.Heap, c uint64, i int, w uint64) {
	t.Helper()
	well(t, "Set", h.Set(c, i, w))
}

func get(t *testing.T, h *tread.Heap, c uint64, i int) uint64 {
	t.Helper()
	w, e := h.Get(c, i)
	well(t, "Get", e)
	return w
}

func fix(t *testing.T, n int) uint64 {
	t.Helper()
	w, e := word.Fix(n)
	well(t, "Fix", e)
	return w
}

// idle brings a heap to where it is idle.
func idle(t *testing.T, h *tread.Heap) {
	t.Helper()
	for range 200000 {
		if !h.Marking() {
			return
		}
		h.Increment(1)
	}
	t.Fatal("a cycle doesn't end")
}

// cycle goes from the flip to the end, once.
func cycle(t *testing.T, h *tread.Heap) {
	t.Helper()
	idle(t, h)
	h.Increment(1)
	idle(t, h)
}

// holdsFree holds how many cells of the size are free.
func holdsFree(t *testing.T, h *tread.Heap, class, want int) {
	t.Helper()
	if n := h.Free(class); n != want {
		t.Fatalf("%d cells of the size %d are free; want %d", n, class, want)
	}
}

// The least size with so many fields, by the chapter's words.
func classOf(n int) int {
	switch {
	case n < 0 || n > 127:
		return -1
	case n > 31:
		return 3
	case n > 7:
		return 2
	case n > 3:
		return 1
	}
	return 0
}

// Class at all sizes' bounds, and beyond.
func TestClass(t *testing.T) {
	for n := -300; n < 1000; n++ {
		if got, want := tread.Class(n), classOf(n); got != want {
			t.Errorf("Class(%d) = %d; want %d", n, got, want)
		}
	}
	for _, n := range []int{minInt, minInt + 1, maxInt, 1 << 32, 1<<32 + 3, 1<<62 + 1} {
		if got := tread.Class(n); got != -1 {
			t.Errorf("Class(%d) = %d; want -1", n, got)
		}
	}
}

// P5.1: what New refuses: a heap that is none, and ErrArg.
func TestNewRefuses(t *testing.T) {
	for _, c := range []struct {
		counts counts
		k      int
	}{
		{same(1), 0}, {same(1), -1}, {same(1), 65}, {same(1), minInt}, {same(1), maxInt},
		{counts{-1, 1, 1, 1}, 1}, {counts{1, -1, 1, 1}, 1}, {counts{1, 1, -1, 1}, 1}, {counts{1, 1, 1, -1}, 1},
		{counts{4001}, 1}, {counts{0, 4001}, 1}, {counts{0, 0, 4001}, 1}, {counts{0, 0, 0, 4001}, 1},
		{counts{minInt}, 1}, {counts{0, 0, 0, maxInt}, 1}, {same(maxInt), 64}, {same(1 << 62), 1}, {same(minInt), 0},
		{counts{8000, -4000}, 1},
	} {
		if h, e := tread.New(c.counts, c.k); h != nil || !is(e, api.ErrArg) {
			t.Errorf("New(%v, %d) = %v, %v; want nil, argument", c.counts, c.k, h, e)
		}
	}
}

// P5.1: a new heap: all cells are free, registers are nothing in particular, it is idle.
func TestNew(t *testing.T) {
	for _, c := range []counts{{}, same(1), same(4000), {4000, 0, 0, 0}, {0, 0, 0, 4000}, {7, 5, 3, 1}} {
		for _, k := range []int{1, 2, 63, 64} {
			h := made(t, c, k)
			for class, n := range c {
				holdsFree(t, h, class, n)
			}
			for i := range api.MaxRoots {
				if w, e := h.Root(i); w != word.Void() || e != nil {
					t.Errorf("Root(%d) = %d, %v; want nothing in particular", i, w, e)
				}
			}
			if h.Marking() || h.Cycles() != 0 {
				t.Errorf("a new heap: marking %v, %d cycles", h.Marking(), h.Cycles())
			}
		}
	}
}

// P5.4: of no size no cell is free.
func TestFreeOfNoSize(t *testing.T) {
	h := made(t, same(9), 1)
	for _, class := range []int{-1, 4, 5, minInt, maxInt, 1 << 32} {
		holdsFree(t, h, class, 0)
	}
}

// P5.2: what Alloc refuses: nothing is done then, no increment either.
func TestAllocRefuses(t *testing.T) {
	h := made(t, same(3), 1)
	work := h.Work()
	for _, c := range [][3]int{
		{0, 0, 0}, {4, 0, 2}, {-1, 0, 2}, {minInt, 0, 2}, {maxInt, 0, 2}, {5, 0, 2},
		{plain, -1, 0}, {plain, 16, 0}, {raw, -1, 3}, {raw, 16, 3}, {weak, -1, 2}, {weak, 16, 2}, {plain, minInt, 0}, {plain, maxInt, 0}, {plain, 1 << 32, 0},
		{plain, 0, -1}, {plain, 0, 128}, {raw, 0, -1}, {raw, 0, 128}, {plain, 0, minInt}, {raw, 0, maxInt}, {raw, 0, 1 << 32},
		{weak, 0, 0}, {weak, 0, 1}, {weak, 0, 3}, {weak, 0, 7}, {weak, 0, 127}, {weak, 0, -2}, {weak, 0, 1<<32 + 2},
	} {
		if w, e := h.Alloc(c[0], c[1], c[2]); w != 0 || !is(e, api.ErrArg) {
			t.Errorf("Alloc%v = %d, %v; want 0, argument", c, w, e)
		}
	}
	if h.Marking() || h.Work() != work {
		t.Error("an allocation that was refused did an increment")
	}
	for class := range api.Classes {
		holdsFree(t, h, class, 3)
	}
}

// void is what stands in a new cell's fields.
func void(form int) uint64 {
	if form == raw {
		return 0
	}
	return word.Void()
}

// P5.2, P5.3: cells of all forms, tags and numbers of fields are what was asked for, also where they are had a second time, with old fields beneath.
func TestAllocShapes(t *testing.T) {
	h := made(t, same(2), 64)
	for round := range 2 {
		for n := range 128 {
			for form := plain; form <= weak; form++ {
				if form == weak && n != 2 {
					continue
				}
				tag := (n + 3*round) % 16
				c, e := h.Alloc(form, tag, n)
				well(t, "Alloc", e)
				f, g, m, e := h.Shape(c)
				if f != form || g != tag || m != n || e != nil {
					t.Fatalf("Shape = %d, %d, %d, %v; want %d, %d, %d", f, g, m, e, form, tag, n)
				}
				for i := range n {
					if w := get(t, h, c, i); w != void(form) {
						t.Fatalf("field %d of a new cell of the form %d: %d", i, form, w)
					}
					set(t, h, c, i, fix(t, i))
				}
				for i := range n {
					if w := get(t, h, c, i); w != fix(t, i) {
						t.Fatalf("field %d of %d: %d", i, n, w)
					}
				}
			}
		}
	}
	for tag := range 16 {
		c, e := h.Alloc(plain, tag, 0)
		well(t, "Alloc", e)
		if _, got, _, _ := h.Shape(c); got != tag {
			t.Errorf("tag %d; want %d", got, tag)
		}
	}
}

// P5.2: a cell is of the size Class(n), of no other one; where none is free, ErrMemory, though others are.
func TestAllocSizes(t *testing.T) {
	for n := range 128 {
		for class := range api.Classes {
			var c counts
			c[class] = 1
			h := made(t, c, 1)
			w, e := h.Alloc(raw, 0, n)
			if class != classOf(n) {
				if w != 0 || !is(e, api.ErrMemory) {
					t.Fatalf("Alloc of %d fields, where cells of the size %d are: %d, %v; want 0, memory", n, class, w, e)
				}
				holdsFree(t, h, class, 1)
				continue
			}
			well(t, "Alloc", e)
			holdsFree(t, h, class, 0)
		}
	}
}

// P5.2: cells are as many as New said, each another one, and its fields are its own.
func TestAllocAll(t *testing.T) {
	const n = 40
	h := made(t, same(n), 1)
	for class, fields := range []int{3, 7, 31, 127} {
		seen := map[uint64]bool{}
		last := word.Void()
		for i := range n {
			c := rooted(t, h, class, plain, fields)
			if seen[c] {
				t.Fatalf("the cell %d is had twice", c)
			}
			seen[c] = true
			set(t, h, c, 0, last)
			for j := 1; j < fields; j++ {
				set(t, h, c, j, fix(t, i*1000+j))
			}
			last = c
			holdsFree(t, h, class, n-1-i)
		}
		for range 1000 {
			if _, e := h.Alloc(plain, 0, fields); !is(e, api.ErrMemory) {
				t.Fatalf("an allocation beyond all cells: %v; want memory", e)
			}
		}
		for i := n - 1; i >= 0; i-- {
			for j := 1; j < fields; j++ {
				if w := get(t, h, last, j); w != fix(t, i*1000+j) {
					t.Fatalf("field %d of the cell %d: %d", j, i, w)
				}
			}
			last = get(t, h, last, 0)
		}
	}
}

// P5.2: an allocation does its k increments, and one that finds no free cell too: what they did stays.
func TestAllocIncrements(t *testing.T) {
	for _, k := range []int{1, 2, 3, 7, 64} {
		h, twin := made(t, counts{0, 2, 0, 0}, k), made(t, counts{0, 2, 0, 0}, k)
		for range 20 {
			work, other := h.Work(), twin.Work()
			_, e := h.Alloc(plain, 0, 2)
			twin.Increment(k)
			if !is(e, api.ErrMemory) {
				t.Fatalf("Alloc: %v; want memory", e)
			}
			if h.Marking() != twin.Marking() || h.Cycles() != twin.Cycles() {
				t.Fatalf("k = %d: marking %v, %d cycles; want %v, %d", k, h.Marking(), h.Cycles(), twin.Marking(), twin.Cycles())
			}
			if n := h.Work() - work - (twin.Work() - other); n < 0 || n > pause {
				t.Fatalf("an allocation of nothing touches %d words beside its increments", n)
			}
		}
	}
}

// P5.2: the increments are done ahead: a cell that they free is had by the same call.
func TestAllocAfterIncrements(t *testing.T) {
	h := made(t, counts{1}, 2)
	c := alloc(t, h, plain, 3)
	if h.Marking() || h.Cycles() != 1 {
		t.Fatalf("two increments of an empty heap: marking %v, %d cycles", h.Marking(), h.Cycles())
	}
	if d := alloc(t, h, plain, 3); d != c {
		t.Errorf("the one cell, had again: %d; want %d", d, c)
	}
}

// P5.2: a new cell is black: the cycle amid which it was had leaves it, wherever it is named.
func TestAllocBlack(t *testing.T) {
	for _, form := range []int{plain, raw, weak} {
		h := made(t, counts{4}, 1)
		alloc(t, h, form, 2) // flips
		if !h.Marking() {
			t.Fatal("the first allocation of k = 1 flips")
		}
		h.Increment(1)
		if h.Marking() || h.Cycles() != 1 {
			t.Fatal("nothing is grey, nor waits: the end")
		}
		holdsFree(t, h, 0, 3)
		h.Increment(2)
		holdsFree(t, h, 0, 4)
	}
}

// strangers are words of the kind 2 that are no size's place, of a heap with these cells.
func strangers(t *testing.T, cells []uint64) []uint64 {
	t.Helper()
	var l []uint64
	numbers := []int{1 << 20, 1<<20 + 1, 1 << 32, 1 << 39, 1 << 40}
	for _, c := range cells {
		b := word.Value(c)
		numbers = append(numbers, b+1, b+2, b+3, b+5, b-1, b-2, b+1<<32)
	}
	for _, n := range numbers {
		w, e := word.Cell(n)
		well(t, "Cell", e)
		l = append(l, w)
	}
	return l
}

// values are words that are no cells; those of the kind 0 too.
func values() []uint64 {
	return []uint64{0, 8, 1<<64 - 8, 1 << 63, 522, 3, 11, 4, 12, 20, 5, 32765, 6, 2046, 7, 28, 19, 1<<64 - 7, 1<<43 + 9, 1<<64 - 1}
}

// sample is a heap with a cell of each size in a register, and these cells.
func sample(t *testing.T) (*tread.Heap, []uint64) {
	t.Helper()
	h := made(t, same(50), 1)
	var cells []uint64
	for i, n := range []int{3, 7, 31, 127} {
		cells = append(cells, rooted(t, h, i, plain, n))
	}
	return h, cells
}

// P5.3: Value: all words but cells that are none.
func TestValue(t *testing.T) {
	h, cells := sample(t)
	for _, w := range append(values(), cells...) {
		if !h.Value(w) {
			t.Errorf("Value(%d) is false", w)
		}
	}
	for _, w := range strangers(t, cells) {
		if h.Value(w) {
			t.Errorf("Value(%d) is true: no size's place", w)
		}
	}
}

// P5.3: of a size's places there are just as many as cells, and they lie apart.
func TestPlaces(t *testing.T) {
	for _, c := range []counts{{}, {5, 0, 0, 0}, {0, 4, 0, 3}, {3, 3, 3, 3}, {1, 0, 2, 0}} {
		h := made(t, c, 1)
		want, n := 0, 0
		for _, m := range c {
			want += m
		}
		for i := range 4000 {
			w, e := word.Cell(i)
			well(t, "Cell", e)
			if h.Value(w) {
				n++
			}
		}
		if n != want {
			t.Errorf("%d places of %v; want %d", n, c, want)
		}
	}
}

// P5.3: Get, Set and Shape of what is no cell: ErrArg, whatever the field and the word.
func TestNoCells(t *testing.T) {
	h, cells := sample(t)
	for _, c := range append(values(), strangers(t, cells)...) {
		for _, i := range []int{0, 1, -1, 200, maxInt} {
			if w, e := h.Get(c, i); w != 0 || !is(e, api.ErrArg) {
				t.Errorf("Get(%d, %d) = %d, %v; want 0, argument", c, i, w, e)
			}
			if e := h.Set(c, i, fix(t, 1)); !is(e, api.ErrArg) {
				t.Errorf("Set(%d, %d): %v; want argument", c, i, e)
			}
		}
		if f, g, n, e := h.Shape(c); f != 0 || g != 0 || n != 0 || !is(e, api.ErrArg) {
			t.Errorf("Shape(%d) = %d, %d, %d, %v; want argument", c, f, g, n, e)
		}
	}
}

// P5.3: fields are as many as were asked for, not as the size has; a field that isn't there is told ahead of a word that may not be.
func TestNoFields(t *testing.T) {
	h := made(t, same(9), 1)
	bad := strangers(t, nil)[0]
	for _, n := range []int{0, 1, 2, 3, 4, 7, 8, 20, 31, 32, 126, 127} {
		for form := plain; form <= weak; form++ {
			if form == weak && n != 2 {
				continue
			}
			c := rooted(t, h, 0, form, n)
			for _, i := range []int{-1, n, n + 1, 127, 128, -3, minInt, maxInt, 1 << 32} {
				if i >= 0 && i < n {
					continue
				}
				if w, e := h.Get(c, i); w != 0 || !is(e, api.ErrRange) {
					t.Errorf("Get of %d fields, %d = %d, %v; want 0, range", n, i, w, e)
				}
				if e := h.Set(c, i, word.Nil()); !is(e, api.ErrRange) {
					t.Errorf("Set of %d fields, %d: %v; want range", n, i, e)
				}
				if e := h.Set(c, i, bad); !is(e, api.ErrRange) {
					t.Errorf("Set of %d fields, %d, of no value: %v; want range", n, i, e)
				}
			}
		}
	}
}

// P5.3: which words may stand in a cell, by its form; one that is refused leaves the field as it was.
func TestSetWords(t *testing.T) {
	h, cells := sample(t)
	p, w := rooted(t, h, 4, plain, 5), rooted(t, h, 5, weak, 2)
	r := rooted(t, h, 6, raw, 5)
	for _, x := range append(values(), cells...) {
		for _, c := range []uint64{p, r, w} {
			set(t, h, c, 1, x)
			if got := get(t, h, c, 1); got != x {
				t.Errorf("Get = %d; want %d", got, x)
			}
		}
	}
	last := cells[len(cells)-1]
	for _, x := range strangers(t, cells) {
		for _, c := range []uint64{p, w} {
			if e := h.Set(c, 1, x); !is(e, api.ErrArg) || get(t, h, c, 1) != last {
				t.Errorf("Set of %d: %v, then %d; want argument, %d", x, e, get(t, h, c, 1), last)
			}
		}
		if e := h.Set(w, 0, x); !is(e, api.ErrArg) || get(t, h, w, 0) != word.Void() {
			t.Errorf("Set of a key %d: %v; want argument", x, e)
		}
		set(t, h, r, 1, x)
		if got := get(t, h, r, 1); got != x {
			t.Errorf("bits: %d; want %d", got, x)
		}
	}
}

// P5.3: a weak cell's first field is set once: what is nothing in particular may be set, also to itself; what is anything else stays.
func TestKeyOnce(t *testing.T) {
	h, cells := sample(t)
	for _, x := range append(values(), cells...) {
		w := rooted(t, h, 5, weak, 2)
		set(t, h, w, 0, word.Void())
		set(t, h, w, 0, word.Void())
		set(t, h, w, 0, x)
		e := h.Set(w, 0, word.Nil())
		if x == word.Void() {
			well(t, "Set", e)
			continue
		}
		if !is(e, api.ErrArg) || get(t, h, w, 0) != x {
			t.Errorf("a key %d that was set, set again: %v, then %d; want argument", x, e, get(t, h, w, 0))
		}
		if e := h.Set(w, 0, word.Void()); !is(e, api.ErrArg) {
			t.Errorf("a key %d that was set, set to nothing: %v; want argument", x, e)
		}
		set(t, h, w, 1, x)
		set(t, h, w, 1, word.Nil())
	}
	p, r := rooted(t, h, 5, plain, 2), rooted(t, h, 6, raw, 2)
	for _, c := range []uint64{p, r} {
		set(t, h, c, 0, word.Nil())
		set(t, h, c, 0, word.Bool(true))
	}
}

// P5.3: registers: twelve of them, each a value of its own.
func TestRoots(t *testing.T) {
	h, cells := sample(t)
	bad := strangers(t, cells)
	for _, i := range []int{-1, 12, 13, minInt, maxInt, 1 << 32, -12} {
		if w, e := h.Root(i); w != 0 || !is(e, api.ErrRange) {
			t.Errorf("Root(%d) = %d, %v; want 0, range", i, w, e)
		}
		if e := h.SetRoot(i, word.Nil()); !is(e, api.ErrRange) {
			t.Errorf("SetRoot(%d): %v; want range", i, e)
		}
		if e := h.SetRoot(i, bad[0]); !is(e, api.ErrRange) {
			t.Errorf("SetRoot(%d) of no value: %v; want range", i, e)
		}
	}
	for _, x := range values() {
		for i := range api.MaxRoots {
			root(t, h, i, fix(t, i))
		}
		for i := range api.MaxRoots {
			root(t, h, i, x)
			if w, e := h.Root(i); w != x || e != nil {
				t.Errorf("Root(%d) = %d, %v; want %d", i, w, e, x)
			}
			for j := i + 1; j < api.MaxRoots; j++ {
				if w, _ := h.Root(j); w != fix(t, j) {
					t.Errorf("Root(%d) = %d; want the number %d", j, w, j)
				}
			}
		}
	}
	for _, x := range bad {
		root(t, h, 3, word.Nil())
		if e := h.SetRoot(3, x); !is(e, api.ErrArg) {
			t.Errorf("SetRoot of %d: %v; want argument", x, e)
		}
		if w, _ := h.Root(3); w != word.Nil() {
			t.Errorf("a register after a refusal: %d", w)
		}
	}
}

// P5.5: of nobody's heap nothing is told, whatever is asked.
func TestNil(t *testing.T) {
	var h *tread.Heap
	for _, i := range []int{0, 1, -1, 12, 100} {
		if w, e := h.Alloc(i, i, i); w != 0 || !is(e, api.ErrNil) {
			t.Errorf("Alloc = %d, %v", w, e)
		}
		for _, c := range []uint64{0, 1, 417, 1<<64 - 1} {
			if w, e := h.Get(c, i); w != 0 || !is(e, api.ErrNil) {
				t.Errorf("Get = %d, %v", w, e)
			}
			if e := h.Set(c, i, c); !is(e, api.ErrNil) {
				t.Errorf("Set: %v", e)
			}
			if f, g, n, e := h.Shape(c); f != 0 || g != 0 || n != 0 || !is(e, api.ErrNil) {
				t.Errorf("Shape = %d, %d, %d, %v", f, g, n, e)
			}
			if h.Value(c) {
				t.Errorf("Value(%d) is true", c)
			}
			if e := h.SetRoot(i, c); !is(e, api.ErrNil) {
				t.Errorf("SetRoot: %v", e)
			}
		}
		if w, e := h.Root(i); w != 0 || !is(e, api.ErrNil) {
			t.Errorf("Root = %d, %v", w, e)
		}
		h.Increment(i)
		if h.Free(i) != 0 {
			t.Errorf("Free(%d) = %d", i, h.Free(i))
		}
	}
	if h.Marking() || h.Cycles() != 0 || h.Work() != 0 {
		t.Error("nobody's heap does something")
	}
}

// A heap that New didn't make has no cells; nothing of it panics.
func TestHeapOfNobody(t *testing.T) {
	var h tread.Heap
	h.Increment(5)
	if _, e := h.Alloc(plain, 0, 2); !is(e, api.ErrMemory) {
		t.Errorf("Alloc: %v; want memory", e)
	}
	if _, e := h.Get(417, 0); !is(e, api.ErrArg) {
		t.Errorf("Get: %v; want argument", e)
	}
	if e := h.SetRoot(0, 417); e == nil {
		t.Error("SetRoot of no cell is taken")
	}
	h.Root(0)
	h.SetRoot(0, 0)
	if h.Work() != 0 {
		t.Errorf("Work = %d", h.Work())
	}
}

// Heaps know nothing of each other, and do the same where the same is asked.
func TestHeapsApart(t *testing.T) {
	h, other := made(t, same(4), 2), made(t, same(4), 2)
	rooted(t, h, 0, plain, 3)
	for class := range api.Classes {
		holdsFree(t, other, class, 4)
	}
	rooted(t, other, 1, plain, 3)
	if h.Work() != other.Work() {
		t.Errorf("the same of two heaps touches %d and %d words", h.Work(), other.Work())
	}
	if w, _ := other.Root(0); w != word.Void() {
		t.Error("another heap's register was set")
	}
}
