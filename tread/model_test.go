package tread_test

import (
	"maps"
	"slices"
	"testing"

	"spindle/api"
	"spindle/tread"
	"spindle/word"
)

// cell is what a cell is, by the chapter's plain words.
type cell struct {
	form, tag int
	fields    []uint64
}

// cells is a set of cells.
type cells map[uint64]bool

// world is a heap, and what must be told of it.
type world struct {
	t       *testing.T
	h       *tread.Heap
	counts  counts
	k       int
	all     map[uint64]*cell // what each cell was last
	roots   [api.MaxRoots]uint64
	had     cells // cells that are had, for sure
	kept    cells // cells that were reached at the flip, or had since
	since   cells // cells that were had since the flip
	marking bool
	cycles  int
	weak    bool // there are weak cells; else had are all that are had
	outside bool // words of cells that aren't reached are used, too
	x       uint64
}

func newWorld(t *testing.T, c counts, k int) *world {
	w := &world{t: t, h: made(t, c, k), counts: c, k: k, all: map[uint64]*cell{}, had: cells{}, x: uint64(k)}
	for i := range w.roots {
		w.roots[i] = word.Void()
	}
	return w
}

// some is a number from 0 up to n, not with it.
func (w *world) some(n int) int {
	w.x = w.x*6364136223846793005 + 1442695040888963407
	return int(w.x>>33) % n
}

// list are cells in their order, so that a run goes the same way each time.
func (s cells) list() []uint64 { return slices.Sorted(maps.Keys(s)) }

// one is one of some cells, if there is one.
func (w *world) one(of cells) uint64 {
	if len(of) == 0 {
		return word.Nil()
	}
	return of.list()[w.some(len(of))]
}

// reached are the cells that are reached from the registers.
func (w *world) reached() cells {
	r := cells{}
	todo := slices.Clone(w.roots[:])
	var wait []*cell
	for len(todo) > 0 {
		c := todo[len(todo)-1]
		todo = todo[:len(todo)-1]
		if x := w.all[c]; x != nil && !r[c] {
			r[c] = true
			switch x.form {
			case plain:
				todo = append(todo, x.fields...)
			case weak:
				wait = append(wait, x)
			}
		}
		if len(todo) > 0 {
			continue
		}
		for _, x := range wait {
			if w.all[x.fields[0]] == nil || r[x.fields[0]] {
				if c := x.fields[1]; w.all[c] != nil && !r[c] {
					todo = append(todo, c)
				}
			}
		}
	}
	return r
}

// follow does what the increments did that have been since.
func (w *world) follow() {
	if w.h.Cycles() == w.cycles && w.h.Marking() == w.marking {
		return
	}
	r := w.reached()
	for w.h.Cycles() != w.cycles || w.h.Marking() != w.marking {
		if !w.marking {
			w.kept, w.since, w.marking = r, cells{}, true
			continue
		}
		w.had = w.kept
		if w.weak || w.outside { // what was reached at the flip may have been let go since, as a thing
			w.had = w.reached()
		}
		for c := range w.since {
			w.had[c] = true
		}
		w.marking = false
		w.cycles++
		if w.cycles > w.h.Cycles() {
			w.t.Fatalf("the heap is idle behind %d cycles", w.h.Cycles())
		}
	}
}

// pauses holds how many words a call touches.
func (w *world) pauses(what string, most int, call func()) {
	work := w.h.Work()
	call()
	if n := w.h.Work() - work; n < 0 || n > most {
		w.t.Fatalf("%s touches %d words", what, n)
	}
}

// alloc has a cell, and puts it into a register.
func (w *world) alloc() {
	form, n := plain, []int{0, 1, 2, 3, 3, 4, 7, 9, 31, 40, 127}[w.some(11)]
	switch w.some(6) {
	case 0:
		form = raw
	case 1, 2:
		if w.weak {
			form, n = weak, 2
		}
	}
	tag := w.some(16)
	var c uint64
	var e error
	w.pauses("Alloc", pause*(w.k+1), func() { c, e = w.h.Alloc(form, tag, n) })
	w.follow()
	class := classOf(n)
	if e != nil {
		if c != 0 || !is(e, api.ErrMemory) || w.h.Free(class) != 0 {
			w.t.Fatalf("Alloc = %d, %v, and %d cells of the size %d are free", c, e, w.h.Free(class), class)
		}
		return
	}
	if w.had[c] {
		w.t.Fatalf("Alloc = %d: a cell that is had", c)
	}
	if x := w.all[c]; x != nil && classOf(len(x.fields)) != class {
		w.t.Fatalf("Alloc = %d: a cell of another size", c)
	}
	for _, x := range w.all {
		if x.form == weak && (x.fields[0] == c || x.fields[1] == c) { // what it had was free, so it is broken
			x.fields = []uint64{word.Bool(false), word.Bool(false)}
		}
	}
	x := &cell{form: form, tag: tag}
	for range n {
		x.fields = append(x.fields, void(form))
	}
	w.all[c], w.had[c] = x, true
	if w.marking {
		w.kept[c], w.since[c] = true, true
	}
	w.root(w.some(api.MaxRoots), c)
}

func (w *world) root(i int, v uint64) {
	w.pauses("SetRoot", pause, func() { well(w.t, "SetRoot", w.h.SetRoot(i, v)) })
	w.roots[i] = v
}

// usable are the cells that a program may name.
func (w *world) usable() cells {
	if w.outside && w.some(4) == 0 {
		w.readWeak()
		return w.had
	}
	return w.reached()
}

// value is some value: mostly a cell.
func (w *world) value() uint64 {
	if n := w.some(10); n < 3 {
		return []uint64{word.Void(), word.Nil(), 7}[n]
	}
	return w.one(w.usable())
}

// set sets a field of some cell.
func (w *world) set() {
	c := w.one(w.usable())
	x := w.all[c]
	if x == nil || len(x.fields) == 0 {
		return
	}
	i, v := w.some(len(x.fields)), w.value()
	if x.form == raw && w.some(2) == 0 {
		v = w.x
	}
	var want api.Kind
	if x.form == weak { // it may be broken by now
		key := w.read(c, 0)
		w.read(c, 1)
		if i == 0 && key != word.Void() {
			want = api.ErrArg
		}
	}
	w.pauses("Set", pause, func() {
		if e := w.h.Set(c, i, v); !is(e, want) {
			w.t.Fatalf("Set: %v; want %v", e, want)
		}
	})
	if want == 0 {
		x.fields[i] = v
	}
}

// read reads a field, and holds it: that of a weak cell may be false, where the key isn't reached.
func (w *world) read(c uint64, i int) uint64 {
	x := w.all[c]
	var v uint64
	w.pauses("Get", pause, func() { v = get(w.t, w.h, c, i) })
	if v == x.fields[i] {
		return v
	}
	if key := x.fields[0]; x.form != weak || v != word.Bool(false) || w.all[key] == nil || w.reached()[key] {
		w.t.Fatalf("field %d of a cell of the form %d: %d; want %d", i, x.form, v, x.fields[i])
	}
	x.fields = []uint64{v, v}
	return v
}

// readWeak reads all weak cells whose keys aren't reached: so it is known which ones are broken by now, and the others aren't till the next cycle's end.
func (w *world) readWeak() {
	r := w.reached()
	for _, c := range w.had.list() {
		if x := w.all[c]; x.form == weak && !r[x.fields[0]] {
			w.read(c, 0)
			w.read(c, 1)
		}
	}
}

// take reads a field into a register.
func (w *world) take() {
	c := w.one(w.usable())
	if x := w.all[c]; x != nil && len(x.fields) > 0 {
		if x.form == weak {
			w.readWeak() // a key comes to be reached again by this
		}
		i := w.some(len(x.fields))
		if v := w.read(c, i); x.form != raw {
			w.root(w.some(api.MaxRoots), v)
		}
	}
}

// check holds all that is reached, and what is free.
func (w *world) check() {
	r := w.reached()
	for c := range r {
		x := w.all[c]
		if f, g, n, e := w.h.Shape(c); f != x.form || g != x.tag || n != len(x.fields) || e != nil {
			w.t.Fatalf("Shape = %d, %d, %d, %v; want %d, %d, %d", f, g, n, e, x.form, x.tag, len(x.fields))
		}
		for i := range x.fields {
			if x.form != weak || !w.marking {
				w.read(c, i)
			}
		}
	}
	for i, v := range w.roots {
		if got, e := w.h.Root(i); got != v || e != nil {
			w.t.Fatalf("Root(%d) = %d, %v; want %d", i, got, e, v)
		}
	}
	w.holdsFree(w.had, !w.weak && !w.outside)
	w.holdsFree(r, false)
}

// holdsFree holds how many cells are free, where those are had: just all others, or at most.
func (w *world) holdsFree(had cells, just bool) {
	free := w.counts
	for c := range had {
		free[classOf(len(w.all[c].fields))]--
	}
	for class, n := range free {
		if got := w.h.Free(class); got > n || just && got != n {
			w.t.Fatalf("%d cells of the size %d are free; want %d (just that: %v)", got, class, n, just)
		}
	}
}

// step does something.
func (w *world) step() {
	switch w.some(8) {
	case 0, 1:
		w.alloc()
	case 2, 3:
		w.set()
	case 4:
		w.take()
	case 5:
		w.root(w.some(api.MaxRoots), w.value())
	case 6:
		w.root(w.some(api.MaxRoots), word.Void())
	case 7:
		for range w.some(6) {
			w.pauses("Increment", pause, func() { w.h.Increment(1) })
			w.follow()
		}
	}
}

// settle ends the cycle that goes on, and does another one: then just what is reached is had, and whose keys aren't are broken.
func (w *world) settle() {
	for range 2 {
		idle(w.t, w.h)
		w.follow()
		w.h.Increment(1)
		w.follow()
	}
	idle(w.t, w.h)
	w.follow()
	w.check()
	r := w.reached()
	w.holdsFree(r, true)
	for c := range r {
		x := w.all[c]
		if x.form == weak && w.all[x.fields[0]] != nil && !r[x.fields[0]] {
			w.t.Fatalf("a weak cell has a key still that nobody reaches")
		}
	}
}

// runs does a lot, of one kind, at several heaps and paces.
func runs(t *testing.T, weak, outside bool) {
	for _, c := range []counts{{9, 6, 4, 3}, {40, 20, 10, 6}, {100, 100, 40, 40}} {
		for _, k := range []int{1, 2, 3, 7, 64} {
			w := newWorld(t, c, k)
			w.weak, w.outside = weak, outside
			for i := range 1500 {
				w.step()
				if i%3 == 0 || w.x>>62 == 0 {
					w.check()
				}
				if i%300 == 299 {
					w.settle()
				}
			}
		}
	}
}

// P5.6, P5.7, P5.8: what programs do that name what they reach: what is reached stays, and just what isn't reached at a flip is free at the end.
func TestPrograms(t *testing.T) { runs(t, false, false) }

// P5.6, P5.7, P5.8: with weak cells.
func TestProgramsWithWeakCells(t *testing.T) { runs(t, true, false) }

// P5.6: whatever is done: words that were kept outside are used again while their cells are had.
func TestProgramsFromOutside(t *testing.T) { runs(t, false, true) }

// P5.6: whatever is done, with weak cells.
func TestProgramsFromOutsideWithWeakCells(t *testing.T) { runs(t, true, true) }

// P5.8: the longest pauses that there are, of heaps of all sizes: a cell whose fields all name white cells, registers that all do, full rings that change their colour.
func TestPauses(t *testing.T) {
	var first [2]int
	for round, n := range []int{200, 4000} {
		h := made(t, same(n), 1)
		top := rooted(t, h, 0, plain, 127)
		for i := range 127 {
			set(t, h, top, i, alloc(t, h, plain, []int{3, 7, 31, 127}[i%4]))
		}
		for i := 1; i < api.MaxRoots; i++ {
			rooted(t, h, i, plain, 3)
		}
		for i := range n {
			alloc(t, h, raw, []int{3, 7, 31, 127}[i%4])
		}
		idle(t, h)
		flips := h.Cycles()
		longest := 0
		for h.Cycles() < flips+2 {
			work := h.Work()
			h.Increment(1)
			longest = max(longest, h.Work()-work)
		}
		if longest > pause || longest < 128 {
			t.Errorf("%d cells: an increment touches %d words", n, longest)
		}
		first[round] = longest
	}
	if first[0] != first[1] {
		t.Errorf("the longest pauses: %v; want the same, however many cells there are", first)
	}
}

// P5.8: an allocation, but for its increments: what a twin touches whose increments are done by themselves.
func TestAllocPauses(t *testing.T) {
	for _, k := range []int{1, 5, 64} {
		for i := range 60 {
			h, twin := made(t, same(300), k), made(t, same(300), k)
			for range i {
				rooted(t, h, i%7, plain, 3)
				rooted(t, twin, i%7, plain, 3)
			}
			n := []int{127, 0, 31, 7, 126}[i%5]
			work, other := h.Work(), twin.Work()
			alloc(t, h, plain, n)
			twin.Increment(k)
			if m := h.Work() - work - (twin.Work() - other); m < n || m > pause {
				t.Fatalf("an allocation of %d fields touches %d words beside its increments", n, m)
			}
		}
	}
}

// P5.4: Work counts all that is touched: each field that is read or set is.
func TestWork(t *testing.T) {
	h := made(t, same(4), 1)
	c := rooted(t, h, 0, plain, 3)
	work := h.Work()
	for i := range 3 {
		get(t, h, c, i)
		if h.Work() <= work {
			t.Error("Get touches nothing")
		}
		work = h.Work()
		set(t, h, c, i, word.Nil())
		if h.Work() <= work {
			t.Error("Set touches nothing")
		}
		work = h.Work()
	}
	h.Marking()
	h.Cycles()
	h.Free(0)
	if h.Work() != work {
		t.Error("what tells of the heap touches it")
	}
	for range 4 {
		h.Increment(1)
		if h.Work() <= work {
			t.Error("an increment touches nothing")
		}
		work = h.Work()
	}
}

// room is the least number of cells of each size by which no allocation is refused.
func room(l, k int) counts { return same(2*l + 2*((l+k-1)/k) + 16) }

// roomy does it with all numbers of cells that are reached, and paces.
func roomy(t *testing.T, least int, do func(h *tread.Heap, l int)) {
	t.Helper()
	for _, l := range []int{0, 1, 2, 3, 5, 10, 33, 130, 500} {
		for _, k := range []int{1, 2, 3, 7, 20, 64} {
			if l >= least {
				do(made(t, room(l, k), k), l)
			}
		}
	}
}

// P5.9: nobody names what is had: all is garbage.
func TestRoomForGarbage(t *testing.T) {
	roomy(t, 0, func(h *tread.Heap, l int) {
		for i := range 600 {
			alloc(t, h, plain, []int{0, 7, 31, 127}[i%4])
		}
		for range 200 {
			alloc(t, h, raw, 127)
		}
	})
}

// P5.9: a queue of L cells: the oldest one goes when a new one comes.
func TestRoomForQueues(t *testing.T) {
	roomy(t, 1, func(h *tread.Heap, l int) {
		n := []int{3, 7, 31, 127}[l%4]
		long := 0
		for range 12*l + 100 {
			if long == l { // the oldest one goes
				old, e := h.Root(0)
				well(t, "Root", e)
				root(t, h, 0, get(t, h, old, 1))
				long--
			}
			c := alloc(t, h, plain, n)
			if long == 0 {
				root(t, h, 0, c)
			} else {
				last, e := h.Root(1)
				well(t, "Root", e)
				set(t, h, last, 1, c)
			}
			root(t, h, 1, c)
			long++
		}
	})
}

// P5.9: lists of L cells, that are let go at once when they are built, at all sizes one after the other.
func TestRoomForLists(t *testing.T) {
	roomy(t, 1, func(h *tread.Heap, l int) {
		for i := range 12 {
			n := []int{3, 7, 31, 127}[i/3]
			root(t, h, 0, word.Nil())
			for range l {
				c := alloc(t, h, plain, n)
				last, e := h.Root(0)
				well(t, "Root", e)
				set(t, h, c, n-1, last)
				root(t, h, 0, c)
			}
		}
	})
}

// P5.9: what stands in a table is set over, here and there.
func TestRoomForTables(t *testing.T) {
	roomy(t, 2, func(h *tread.Heap, l int) {
		most := min(l-1, 127)
		top := rooted(t, h, 0, plain, most)
		for i := range 3000 {
			set(t, h, top, i*i%most, word.Nil())
			set(t, h, top, i*i%most, alloc(t, h, plain, []int{2, 100, 5, 30}[i/700%4]))
		}
	})
}
