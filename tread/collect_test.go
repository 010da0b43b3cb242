package tread_test

import (
	"testing"

	"spindle/api"
	"spindle/tread"
	"spindle/word"
)

// quiet is a heap that is idle, with cells (of two fields, of these forms) of which nothing is said yet: cells[i] stands in the register i.
func quiet(t *testing.T, forms ...int) (*tread.Heap, []uint64) {
	t.Helper()
	h := made(t, counts{60, 0, 0, 0}, 1)
	var cells []uint64
	for i, f := range forms {
		cells = append(cells, rooted(t, h, i, f, 2))
	}
	idle(t, h)
	return h, cells
}

// steps holds that a cycle takes just so many increments from the flip to the end, and leaves so many cells free.
func steps(t *testing.T, h *tread.Heap, want, free int) {
	t.Helper()
	if h.Marking() {
		t.Fatal("it isn't idle")
	}
	n := h.Cycles()
	for i := range want {
		if h.Marking() != (i > 0) || h.Cycles() != n {
			t.Fatalf("behind %d increments: marking %v, %d cycles; want %d in all", i, h.Marking(), h.Cycles()-n, want)
		}
		h.Increment(1)
	}
	if h.Marking() || h.Cycles() != n+1 {
		t.Fatalf("behind %d increments: marking %v, %d cycles; want the end", want, h.Marking(), h.Cycles()-n)
	}
	holdsFree(t, h, 0, free)
}

// The chapter's example.
func TestExample(t *testing.T) {
	h := made(t, counts{4, 0, 0, 0}, 1)
	seen := map[uint64]bool{}
	for i := range 4 {
		c, e := h.Alloc(1, 0, 2)
		if e != nil || seen[c] {
			t.Fatalf("Alloc = %d, %v", c, e)
		}
		seen[c] = true
		if i < 3 {
			root(t, h, i, c)
		}
	}
	for i := range 3 {
		c, _ := h.Root(i)
		delete(seen, c)
	}
	for range 100 {
		c, e := h.Alloc(1, 0, 2)
		if e == nil {
			if !seen[c] {
				t.Fatalf("Alloc = %d: a cell that a register names", c)
			}
			return
		}
		if !is(e, api.ErrMemory) {
			t.Fatal(e)
		}
	}
	t.Fatal("the fourth cell is never free again")
}

// P5.4: none below 1; else as many as are asked for.
func TestIncrementNumbers(t *testing.T) {
	h := made(t, same(2), 1)
	work := h.Work()
	for _, n := range []int{0, -1, -2, minInt} {
		h.Increment(n)
	}
	if h.Marking() || h.Cycles() != 0 || h.Work() != work {
		t.Fatal("no increment does something")
	}
	for n := range 20 {
		h, twin := made(t, same(2), 1), made(t, same(2), 1)
		h.Increment(n)
		for range n {
			twin.Increment(1)
		}
		if h.Marking() != (n%2 == 1) || h.Cycles() != n/2 {
			t.Errorf("%d increments of an empty heap: marking %v, %d cycles", n, h.Marking(), h.Cycles())
		}
		if h.Work() != twin.Work() {
			t.Errorf("%d increments at once touch %d words; one by one %d", n, h.Work(), twin.Work())
		}
	}
}

// An increment is the flip, the scan of one cell, or the end; of all that isn't reached none is scanned.
func TestIncrements(t *testing.T) {
	h, c := quiet(t, plain, plain, plain, raw, plain)
	steps(t, h, 7, 55)
	set(t, h, c[0], 0, c[1])
	set(t, h, c[1], 1, c[3])
	set(t, h, c[2], 0, c[0])
	set(t, h, c[2], 1, c[2])
	for i := 1; i < 5; i++ {
		root(t, h, i, word.Void())
	}
	steps(t, h, 5, 57) // 0, 1, 3
	root(t, h, 0, word.Nil())
	steps(t, h, 2, 60)
	steps(t, h, 2, 60)
}

// What is named twice, or by itself, or round about, is scanned once.
func TestScanOnce(t *testing.T) {
	h, c := quiet(t, plain, plain, plain)
	for i, x := range c {
		set(t, h, x, 0, c[(i+1)%3])
		set(t, h, x, 1, x)
		root(t, h, i+3, x)
	}
	steps(t, h, 5, 57)
	for i := 1; i < api.MaxRoots; i++ {
		root(t, h, i, word.Void())
	}
	steps(t, h, 5, 57)
	root(t, h, 0, word.Void())
	steps(t, h, 2, 60)
}

// Bits of raw cells name nothing, whatever they look like; nor do words that are like cells, but none.
func TestBits(t *testing.T) {
	h, c := quiet(t, raw, plain, plain)
	set(t, h, c[0], 0, c[1])
	set(t, h, c[0], 1, c[2])
	root(t, h, 1, c[2])
	root(t, h, 2, fix(t, word.Value(c[1])))
	set(t, h, c[2], 0, c[1]+1)
	set(t, h, c[2], 1, fix(t, word.Value(c[1])))
	steps(t, h, 4, 58)
	if get(t, h, c[0], 0) != c[1] {
		t.Error("bits were changed")
	}
}

// Cells of all sizes name one another, and all their fields count.
func TestFieldsOfAllSizes(t *testing.T) {
	for n := 1; n < 128; n++ {
		h := made(t, same(3), 1)
		top := rooted(t, h, 0, plain, n)
		for _, i := range []int{0, n / 2, n - 1} {
			for j, m := range []int{0, 7, 20, 127} {
				c := rooted(t, h, 1, raw, m)
				set(t, h, top, i, c)
				root(t, h, 1, word.Void())
				cycle(t, h)
				cycle(t, h)
				if f, _, got, e := h.Shape(get(t, h, top, i)); f != raw || got != m || e != nil {
					t.Fatalf("field %d of %d names %d, %d, %v", i, n, f, got, e)
				}
				want := 2
				if tread.Class(n) == j {
					want = 1
				}
				holdsFree(t, h, j, want)
				set(t, h, top, i, word.Nil())
				cycle(t, h)
				cycle(t, h)
				holdsFree(t, h, j, want+1)
			}
		}
	}
}

// P5.7: what isn't reached at the flip is free at the cycle's end: not before it, and not one cycle later; what is reached by then, later let go, stays till the next one's.
func TestEnd(t *testing.T) {
	h, c := quiet(t, plain, plain, plain)
	set(t, h, c[0], 0, c[1])
	set(t, h, c[1], 0, c[2])
	root(t, h, 1, word.Void())
	root(t, h, 2, word.Void())
	h.Increment(1)
	root(t, h, 0, word.Void())
	for h.Marking() {
		holdsFree(t, h, 0, 57)
		h.Increment(1)
	}
	holdsFree(t, h, 0, 57)
	h.Increment(1)
	holdsFree(t, h, 0, 57)
	h.Increment(1)
	holdsFree(t, h, 0, 60)
}

// P5.6, the barrier: what a field named at the flip is kept, wherever it goes, whatever is set over it and whatever was scanned by then.
func TestBarrier(t *testing.T) {
	for pause := range 6 {
		for between := range 6 {
			h, c := quiet(t, plain, plain, plain, plain)
			x, y, z := c[0], c[1], c[2]
			set(t, h, y, 1, z)
			set(t, h, z, 0, c[3])
			set(t, h, c[3], 0, fix(t, 77))
			root(t, h, 2, word.Void())
			root(t, h, 3, word.Void())
			h.Increment(1 + pause)
			moved := get(t, h, y, 1)
			set(t, h, x, 0, moved)
			h.Increment(between)
			set(t, h, y, 1, word.Nil())
			idle(t, h)
			holdsFree(t, h, 0, 56)
			for range 3 {
				cycle(t, h)
				holdsFree(t, h, 0, 56)
			}
			if w := get(t, h, get(t, h, get(t, h, x, 0), 0), 0); w != fix(t, 77) {
				t.Fatalf("what was moved has lost its field: %d", w)
			}
		}
	}
}

// P5.6: a word may go through registers alone, from a field that is set over.
func TestBarrierToRegister(t *testing.T) {
	h, c := quiet(t, plain, plain)
	set(t, h, c[0], 0, c[1])
	set(t, h, c[1], 0, fix(t, 5))
	root(t, h, 1, word.Void())
	h.Increment(1)
	root(t, h, 7, get(t, h, c[0], 0))
	set(t, h, c[0], 0, word.Void())
	root(t, h, 0, word.Void())
	idle(t, h)
	holdsFree(t, h, 0, 58)
	steps(t, h, 3, 59)
	if w := get(t, h, c[1], 0); w != fix(t, 5) {
		t.Errorf("its field: %d", w)
	}
}

// The barrier is for plain cells while it is marking: else what is set over is let go at once.
func TestNoBarrier(t *testing.T) {
	h, c := quiet(t, plain, plain, raw, plain)
	set(t, h, c[0], 0, c[1])
	set(t, h, c[2], 0, c[3])
	root(t, h, 1, word.Void())
	root(t, h, 3, word.Void())
	set(t, h, c[0], 0, word.Nil())
	steps(t, h, 4, 58)
	h, c = quiet(t, raw, plain)
	set(t, h, c[0], 0, c[1])
	root(t, h, 1, word.Void())
	h.Increment(1)
	get(t, h, c[0], 0)
	set(t, h, c[0], 0, 0)
	idle(t, h)
	holdsFree(t, h, 0, 59)
}

// Where nothing is set, nothing is grey: refusals too leave all as it was.
func TestRefusalsShadeNothing(t *testing.T) {
	h, c := quiet(t, plain, plain, plain)
	set(t, h, c[0], 0, c[1])
	set(t, h, c[1], 0, c[2])
	for i := range 3 {
		root(t, h, i, word.Void())
	}
	h.Increment(1)
	bad := strangers(t, c)[0]
	if e := h.Set(c[0], 0, bad); !is(e, api.ErrArg) {
		t.Fatalf("Set: %v", e)
	}
	if e := h.Set(c[1], 2, word.Nil()); !is(e, api.ErrRange) {
		t.Fatalf("Set: %v", e)
	}
	if e := h.SetRoot(12, c[0]); !is(e, api.ErrRange) {
		t.Fatalf("SetRoot: %v", e)
	}
	get(t, h, c[0], 0)
	h.Shape(c[1])
	h.Value(c[2])
	h.Increment(1)
	if h.Marking() {
		t.Fatal("a cell is grey that nobody reaches")
	}
	holdsFree(t, h, 0, 60)
}

// P5.6: whatever is done: a word that was kept outside, of a cell that nobody reached at the flip, is put where it is reached again ahead of the end.
func TestKeptOutside(t *testing.T) {
	puts := []func(h *tread.Heap, c []uint64){
		func(h *tread.Heap, c []uint64) { root(t, h, 5, c[2]) },
		func(h *tread.Heap, c []uint64) { set(t, h, c[0], 1, c[2]) },
		func(h *tread.Heap, c []uint64) { set(t, h, c[1], 1, c[2]) },
		func(h *tread.Heap, c []uint64) {
			d := rooted(t, h, 6, plain, 1)
			set(t, h, d, 0, c[2])
		},
		func(h *tread.Heap, c []uint64) {
			d := rooted(t, h, 6, weak, 2)
			set(t, h, d, 1, c[2])
			set(t, h, d, 0, c[0])
		},
	}
	for i, put := range puts {
		most := 4 // increments ahead of the end
		if i > 2 {
			most = 3 // one more comes with the new cell
		}
		for n := 1; n <= most; n++ {
			h, c := quiet(t, plain, weak, plain, plain)
			set(t, h, c[2], 0, c[3])
			set(t, h, c[3], 0, fix(t, 9))
			root(t, h, 2, word.Void())
			root(t, h, 3, word.Void())
			h.Increment(n)
			put(h, c)
			if !h.Marking() {
				t.Fatal("the cycle ends too early")
			}
			for range 4 {
				idle(t, h)
				d := get(t, h, c[2], 0)
				if d != c[3] || get(t, h, d, 0) != fix(t, 9) {
					t.Fatalf("put %d, %d increments: %d; want %d", i, n, d, c[3])
				}
				want := 56
				if i > 2 {
					want = 55
				}
				holdsFree(t, h, 0, want)
				h.Increment(1)
			}
		}
	}
}

// P5.7: a word that was kept outside, put where it isn't reached: into a cell that isn't reached itself, or as the thing of a weak cell whose key isn't.
func TestKeptOutsideInVain(t *testing.T) {
	h, c := quiet(t, plain, plain)
	root(t, h, 0, word.Void())
	root(t, h, 1, word.Void())
	h.Increment(1)
	set(t, h, c[0], 0, c[1])
	h.Increment(1)
	if h.Marking() {
		t.Fatal("a cell is grey that nobody reaches")
	}
	holdsFree(t, h, 0, 60)
	for n := 1; n < 3; n++ {
		h, c := quiet(t, weak, plain, plain)
		set(t, h, c[0], 0, c[1])
		root(t, h, 1, word.Void())
		root(t, h, 2, word.Void())
		h.Increment(n)
		set(t, h, c[0], 1, c[2])
		idle(t, h)
		broken(t, h, c[0])
		holdsFree(t, h, 0, 59)
	}
}

// pair makes a weak cell's fields.
func pair(t *testing.T, h *tread.Heap, w, key, thing uint64) {
	t.Helper()
	set(t, h, w, 0, key)
	set(t, h, w, 1, thing)
}

// holdsPair holds a weak cell's fields. It is for heaps that are idle: else Get keeps what it reads.
func holdsPair(t *testing.T, h *tread.Heap, w, key, thing uint64) {
	t.Helper()
	if h.Marking() {
		t.Fatal("it isn't idle")
	}
	if a, b := get(t, h, w, 0), get(t, h, w, 1); a != key || b != thing {
		t.Fatalf("a weak cell has %d, %d; want %d, %d", a, b, key, thing)
	}
}

func broken(t *testing.T, h *tread.Heap, w uint64) {
	t.Helper()
	holdsPair(t, h, w, word.Bool(false), word.Bool(false))
}

// A weak cell's thing is kept, as long as the key is reached; else it is let go, and so is the key, and both fields are false.
func TestWeak(t *testing.T) {
	h, c := quiet(t, weak, plain, plain)
	pair(t, h, c[0], c[1], c[2])
	root(t, h, 2, word.Void())
	for range 3 {
		steps(t, h, 6, 57) // two scans, a look, a scan
		holdsPair(t, h, c[0], c[1], c[2])
	}
	root(t, h, 1, word.Void())
	steps(t, h, 4, 59) // a scan, a look
	broken(t, h, c[0])
	if e := h.Set(c[0], 0, word.Void()); !is(e, api.ErrArg) {
		t.Errorf("a broken one's key, set: %v", e)
	}
	steps(t, h, 4, 59)
	broken(t, h, c[0])
}

// The thing that is reached elsewhere stays; that it was a thing is nothing to it.
func TestWeakThingReached(t *testing.T) {
	h, c := quiet(t, weak, plain, plain)
	pair(t, h, c[0], c[1], c[2])
	root(t, h, 1, word.Void())
	steps(t, h, 5, 58)
	broken(t, h, c[0])
	root(t, h, 0, word.Void())
	steps(t, h, 3, 59)
}

// A key that is no cell keeps the thing, for ever.
func TestWeakKeysNoCells(t *testing.T) {
	for _, key := range values() {
		h, c := quiet(t, weak, plain)
		pair(t, h, c[0], key, c[1])
		root(t, h, 1, word.Void())
		for range 2 {
			steps(t, h, 5, 58)
			holdsPair(t, h, c[0], key, c[1])
		}
	}
}

// A thing that is no cell: kept as the key is.
func TestWeakThingsNoCells(t *testing.T) {
	for _, thing := range values() {
		h, c := quiet(t, weak, plain)
		pair(t, h, c[0], c[1], thing)
		steps(t, h, 5, 58)
		holdsPair(t, h, c[0], c[1], thing)
		root(t, h, 1, word.Void())
		steps(t, h, 4, 59)
		broken(t, h, c[0])
	}
}

// A key that only its own thing names, or that is its own weak cell's thing: nobody reaches it.
func TestWeakKeyThroughThing(t *testing.T) {
	h, c := quiet(t, weak, plain, plain, weak, plain)
	pair(t, h, c[0], c[1], c[2])
	set(t, h, c[2], 0, c[1])
	pair(t, h, c[3], c[4], c[4])
	for _, i := range []int{1, 2, 4} {
		root(t, h, i, word.Void())
	}
	cycle(t, h)
	broken(t, h, c[0])
	broken(t, h, c[3])
	holdsFree(t, h, 0, 58)
}

// A weak cell that is its own key is reached, if it is.
func TestWeakOwnKey(t *testing.T) {
	h, c := quiet(t, weak, plain)
	pair(t, h, c[0], c[0], c[1])
	root(t, h, 1, word.Void())
	steps(t, h, 5, 58)
	holdsPair(t, h, c[0], c[0], c[1])
	root(t, h, 0, word.Void())
	steps(t, h, 2, 60)
}

// Weak cells whose things are the keys of others: all are kept as far as the first key is, by whatever order they come; else all are broken, though each was looked at more than once.
func TestWeakChains(t *testing.T) {
	orders := [][]int{{0, 1, 2, 3}, {3, 2, 1, 0}, {2, 0, 3, 1}, {1, 3, 0, 2}}
	for _, order := range orders {
		h, c := quiet(t, weak, weak, weak, weak, plain, plain, plain, plain, plain)
		links := c[4:]
		for i, j := range order {
			pair(t, h, c[j], links[i], links[i+1])
		}
		for i := 5; i < 9; i++ {
			root(t, h, i, word.Void())
		}
		for range 3 {
			cycle(t, h)
			holdsFree(t, h, 0, 51)
			for i, j := range order {
				holdsPair(t, h, c[j], links[i], links[i+1])
			}
		}
		root(t, h, 4, word.Void())
		cycle(t, h)
		holdsFree(t, h, 0, 56)
		for _, w := range c[:4] {
			broken(t, h, w)
		}
	}
}

// A thing that is a weak cell: it is scanned in its turn, and waits.
func TestWeakWithinWeak(t *testing.T) {
	h, c := quiet(t, weak, weak, plain, plain)
	pair(t, h, c[0], c[2], c[1])
	pair(t, h, c[1], c[2], c[3])
	root(t, h, 1, word.Void())
	root(t, h, 3, word.Void())
	cycle(t, h)
	holdsPair(t, h, c[0], c[2], c[1])
	holdsPair(t, h, c[1], c[2], c[3])
	holdsFree(t, h, 0, 56)
	root(t, h, 2, word.Void())
	cycle(t, h)
	broken(t, h, c[0])
	holdsFree(t, h, 0, 59)
}

// Of weak cells that all wait in vain, each is looked at ahead of the first one's break; then each look breaks one. One whose key is reached is none of them.
func TestWeakLooks(t *testing.T) {
	for n := 1; n < 6; n++ {
		forms := make([]int, 0, 12)
		for range n {
			forms = append(forms, weak)
		}
		h, c := quiet(t, append(forms, plain, plain)...)
		for _, w := range c[:n] {
			pair(t, h, w, c[n], c[n+1])
		}
		steps(t, h, 2*n+4, 60-n-2)
		root(t, h, n, word.Void())
		root(t, h, n+1, word.Void())
		steps(t, h, 3*n+1, 60-n)
		for _, w := range c[:n] {
			broken(t, h, w)
		}
	}
}

// Whose fields are read while it is marking: they are kept by that, the key as well as the thing.
func TestWeakGet(t *testing.T) {
	for i, free := range []int{56, 58} {
		h, c := quiet(t, weak, plain, plain, plain)
		pair(t, h, c[0], c[1], c[2])
		set(t, h, c[1+i], 0, c[3])
		for j := 1; j < 4; j++ {
			root(t, h, j, word.Void())
		}
		h.Increment(1)
		if w := get(t, h, c[0], i); w != c[1+i] {
			t.Fatalf("Get(%d) = %d", i, w)
		}
		root(t, h, 1, c[1+i])
		idle(t, h)
		if i == 0 {
			holdsPair(t, h, c[0], c[1], c[2])
		} else {
			broken(t, h, c[0])
		}
		holdsFree(t, h, 0, free-i)
		if w := get(t, h, c[1+i], 0); w != c[3] {
			t.Errorf("what was read has lost its field: %d", w)
		}
	}
}

// What is read when it is idle isn't kept.
func TestWeakGetIdle(t *testing.T) {
	h, c := quiet(t, weak, plain, plain)
	pair(t, h, c[0], c[1], c[2])
	root(t, h, 1, word.Void())
	root(t, h, 2, word.Void())
	holdsPair(t, h, c[0], c[1], c[2])
	cycle(t, h)
	broken(t, h, c[0])
	holdsFree(t, h, 0, 59)
}

// What is read is kept by that alone, till the cycle's end, whether it is put anywhere or not.
func TestWeakGetKeeps(t *testing.T) {
	for i := range 2 {
		h, c := quiet(t, weak, plain, plain)
		pair(t, h, c[0], c[1], c[2])
		root(t, h, 1, word.Void())
		root(t, h, 2, word.Void())
		h.Increment(1)
		get(t, h, c[0], i)
		idle(t, h)
		if i == 0 {
			holdsFree(t, h, 0, 57)
			holdsPair(t, h, c[0], c[1], c[2])
		} else {
			holdsFree(t, h, 0, 58)
			broken(t, h, c[0])
		}
		cycle(t, h)
		broken(t, h, c[0])
		holdsFree(t, h, 0, 59)
	}
}

// A key that is read amid the looks: weak cells that were looked at in vain before that are looked at again, ahead of a break, by whatever order they come.
func TestWeakGetAmidLooks(t *testing.T) {
	for _, order := range [][]int{{0, 1, 2}, {0, 2, 1}, {1, 0, 2}, {1, 2, 0}, {2, 0, 1}, {2, 1, 0}} {
		for looks := range 3 {
			h, c := quiet(t, weak, weak, weak, plain, plain, plain, plain)
			links := c[3:]
			for i, j := range order {
				pair(t, h, c[j], links[i], links[i+1])
			}
			for j := 3; j < 7; j++ {
				root(t, h, j, word.Void())
			}
			h.Increment(4 + looks) // the flip, three scans, looks in vain
			if get(t, h, c[order[0]], 0) != links[0] {
				t.Fatal("it is broken too early")
			}
			root(t, h, 3, links[0])
			idle(t, h)
			for i, j := range order {
				holdsPair(t, h, c[j], links[i], links[i+1])
			}
			holdsFree(t, h, 0, 53)
		}
	}
}

// P5.6: a thing that is set over is no more kept by that weak cell; but a register, or a field, that named it by then keeps it.
func TestWeakThingSetOver(t *testing.T) {
	for n := 1; n < 6; n++ {
		for where := range 2 {
			h, c := quiet(t, weak, plain, plain, plain)
			pair(t, h, c[0], c[1], c[2])
			set(t, h, c[2], 0, fix(t, 3))
			root(t, h, 2, word.Void())
			outside := get(t, h, c[0], 1)
			h.Increment(n)
			if where == 0 {
				root(t, h, 4, outside)
			} else {
				set(t, h, c[3], 1, outside)
			}
			set(t, h, c[0], 1, word.Nil())
			idle(t, h)
			holdsFree(t, h, 0, 56)
			if w := get(t, h, outside, 0); w != fix(t, 3) {
				t.Fatalf("its field: %d", w)
			}
		}
	}
	h, c := quiet(t, weak, plain, plain)
	pair(t, h, c[0], c[1], c[2])
	root(t, h, 1, word.Void())
	root(t, h, 2, word.Void())
	h.Increment(1)
	set(t, h, c[0], 1, word.Nil())
	idle(t, h)
	broken(t, h, c[0])
	holdsFree(t, h, 0, 59)
}

// A weak cell that was had amid the cycle waits for the next one.
func TestWeakNew(t *testing.T) {
	h, c := quiet(t, plain, plain)
	set(t, h, c[0], 0, c[1])
	root(t, h, 1, word.Void())
	w := rooted(t, h, 2, weak, 2) // flips
	pair(t, h, w, c[1], c[0])
	idle(t, h)
	holdsPair(t, h, w, c[1], c[0])
	holdsFree(t, h, 0, 57)
	set(t, h, c[0], 0, word.Nil())
	root(t, h, 0, word.Nil())
	cycle(t, h)
	broken(t, h, w)
	holdsFree(t, h, 0, 59)
}

// A key that is set amid the cycle, of a weak cell that was had amid it, or that was looked at by then: when nobody reaches that key any more, the weak cell is broken one cycle later.
func TestWeakKeyAmidCycle(t *testing.T) {
	for n := 1; n < 9; n++ {
		for old := range 2 {
			h, c := quiet(t, weak, plain, plain, weak)
			pair(t, h, c[0], c[1], c[2])
			root(t, h, 2, word.Void())
			key, w := get(t, h, c[0], 1), c[3]
			h.Increment(n)
			if old == 0 {
				w = rooted(t, h, 4, weak, 2)
			}
			set(t, h, w, 0, key)
			set(t, h, c[0], 1, word.Nil())
			set(t, h, w, 1, alloc(t, h, plain, 1))
			idle(t, h)
			cycle(t, h)
			broken(t, h, w)
			cycle(t, h)
			holdsFree(t, h, 0, 56+old)
		}
	}
}

// A cell that a register or a field names, though it is free: it stays so, and is had as any other one.
func TestFreeNamed(t *testing.T) {
	h, c := quiet(t, plain, plain, weak)
	stale := c[1]
	root(t, h, 1, word.Void())
	cycle(t, h)
	holdsFree(t, h, 0, 58)
	root(t, h, 3, stale)
	set(t, h, c[0], 0, stale)
	pair(t, h, c[2], stale, stale)
	for range 3 {
		steps(t, h, 5, 58)
	}
	h.Increment(1)
	h.Get(stale, 0)
	h.Set(stale, 0, c[0])
	h.Shape(stale)
	idle(t, h)
	holdsFree(t, h, 0, 58)
	seen, last := map[uint64]bool{c[0]: true, c[2]: true}, word.Nil()
	for range 58 {
		d := alloc(t, h, plain, 3)
		if seen[d] {
			t.Fatalf("the cell %d is had twice", d)
		}
		seen[d] = true
		set(t, h, d, 0, last)
		root(t, h, 5, d)
		last = d
	}
	if !seen[stale] {
		t.Errorf("all cells are had but %d", stale)
	}
	cycle(t, h)
	holdsFree(t, h, 0, 0)
}
