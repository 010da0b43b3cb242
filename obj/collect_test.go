package obj_test

import (
	"testing"

	"spindle/api"
	"spindle/obj"
	"spindle/tread"
	"spindle/word"
)

// thing is what an object was made of: a word, a text (tag 2), or things.
type thing struct {
	tag  int
	word uint64
	text string
	kids []*thing
}

// world is a heap whose registers name objects, and what these were made of.
type world struct {
	t     *testing.T
	h     *tread.Heap
	roots [api.MaxRoots]*thing
	made  int // objects that were made
	x     uint64
}

func newWorld(t *testing.T, c counts, k int) *world {
	w := &world{t: t, h: made(t, c, k), x: uint64(k + c[0])}
	for i := range w.roots {
		w.roots[i] = &thing{word: word.Void()}
	}
	return w
}

// some is a number from 0 up to n, not with it.
func (w *world) some(n int) int {
	w.x = w.x*6364136223846793005 + 1442695040888963407
	return int(w.x>>33) % n
}

// kid is a thing that is reached, or a word, and its word.
func (w *world) kid() (*thing, uint64) {
	if w.some(3) == 0 {
		v := immediate()[w.some(len(immediate()))]
		return &thing{word: v}, v
	}
	i := w.some(api.MaxRoots)
	v, e := w.h.Root(i)
	well(w.t, "Root", e)
	return w.roots[i], v
}

// make makes an object of what is reached, and puts it into a register.
func (w *world) make() {
	x, v, e := &thing{}, uint64(0), error(nil)
	n := []int{0, 1, 2, 2, 2, 3, 5, 9, 40, 120}[w.some(10)]
	switch w.some(4) {
	case 0:
		x.tag, x.text = 2, mixedBytes(w.some(501))
		v, e = obj.Str(w.h, x.text)
	case 1:
		k, u := w.kid()
		x.tag = 3 + w.some(10)
		for range n {
			x.kids = append(x.kids, k)
		}
		v, e = obj.Fill(w.h, x.tag, n, u)
	default:
		var fields []uint64
		for range n {
			k, u := w.kid()
			x.kids, fields = append(x.kids, k), append(fields, u)
		}
		x.tag = []int{1, 3, 4, 5, 6, 7, 8, 9, 10, 11, 12}[w.some(11)]
		v, e = obj.Make(w.h, x.tag, fields...)
	}
	if is(e, api.ErrMemory) && v == 0 {
		return
	}
	well(w.t, "an object", e)
	w.made++
	w.root(w.some(api.MaxRoots), x, v)
}

func (w *world) root(i int, x *thing, v uint64) {
	root(w.t, w.h, i, v)
	w.roots[i] = x
}

// set sets a field of something that is reached.
func (w *world) set() {
	x, v := w.kid()
	if len(x.kids) == 0 {
		return
	}
	k, u := w.kid()
	i := w.some(len(x.kids))
	well(w.t, "SetField", obj.SetField(w.h, v, x.tag, i, u))
	x.kids[i] = k
}

// take reads a field into a register.
func (w *world) take() {
	x, v := w.kid()
	if len(x.kids) == 0 {
		return
	}
	i := w.some(len(x.kids))
	u, e := obj.Field(w.h, v, x.tag, i)
	well(w.t, "Field", e)
	w.root(w.some(api.MaxRoots), x.kids[i], u)
}

// step does something.
func (w *world) step() {
	switch w.some(8) {
	case 0, 1, 2:
		w.make()
	case 3:
		w.set()
	case 4:
		w.take()
	case 5, 6:
		w.root(w.some(api.MaxRoots), &thing{word: word.Nil()}, word.Nil())
	case 7:
		w.h.Increment(w.some(9))
	}
}

// check holds all that is reached against what it was made of; a thing is one cell, wherever it is named.
func (w *world) check() {
	words, things := map[*thing]uint64{}, map[uint64]*thing{}
	var look func(x *thing, v uint64)
	look = func(x *thing, v uint64) {
		if x.tag == 0 {
			if v != x.word {
				w.t.Fatalf("a word is %d; want %d", v, x.word)
			}
			return
		}
		if old, ok := words[x]; ok {
			if old != v {
				w.t.Fatalf("one object is named by %d and by %d", old, v)
			}
			return
		}
		if things[v] != nil {
			w.t.Fatalf("%d names two objects", v)
		}
		words[x], things[v] = v, x
		if x.tag == 2 {
			if s, e := obj.Text(w.h, v); s != x.text || e != nil {
				w.t.Fatalf("Text = %q, %v; want %q", s, e, x.text)
			}
			return
		}
		if g, n := obj.Tag(w.h, v), obj.Len(w.h, v); g != x.tag || n != len(x.kids) {
			w.t.Fatalf("Tag, Len = %d, %d; want %d, %d", g, n, x.tag, len(x.kids))
		}
		for i, k := range x.kids {
			u, e := obj.Field(w.h, v, x.tag, i)
			well(w.t, "Field", e)
			look(k, u)
		}
	}
	for i, x := range w.roots {
		v, e := w.h.Root(i)
		well(w.t, "Root", e)
		look(x, v)
	}
}

// P6.5: what objects were made of is read again, at all paces of the collector, in narrow heaps and wide ones.
func TestPrograms(t *testing.T) {
	for _, c := range []counts{{12, 8, 8, 12}, {60, 30, 30, 60}, {400, 200, 200, 200}} {
		for _, k := range []int{1, 2, 3, 7, 64} {
			w := newWorld(t, c, k)
			for i := range 3000 {
				w.step()
				if i%7 == 0 {
					w.check()
				}
			}
			if w.made < 300 || w.h.Cycles() < 5 {
				t.Errorf("%v, %d: %d objects, %d cycles: nothing is said by these", c, k, w.made, w.h.Cycles())
			}
		}
	}
}

// P6.5: a list that grows while the collector goes on, of strings that are its own.
func TestGrowingList(t *testing.T) {
	for k := 1; k <= 64; k++ {
		h := made(t, counts{300, 300, 300, 300}, k)
		root(t, h, 0, word.Nil())
		for n := range 200 {
			s := text(t, h, mixedBytes(n))
			root(t, h, 1, s)
			l, e := h.Root(0)
			well(t, "Root", e)
			root(t, h, 0, build(t, h, 1, s, l))
			root(t, h, 1, word.Nil())
		}
		l, _ := h.Root(0)
		words, e := obj.List(h, l, 200)
		if e != nil || len(words) != 200 {
			t.Fatalf("List = %d words, %v", len(words), e)
		}
		for i, w := range words {
			if s, e := obj.Text(h, w); s != mixedBytes(199-i) || e != nil {
				t.Fatalf("k %d: Text of the string %d = %q, %v", k, i, s, e)
			}
		}
	}
}
