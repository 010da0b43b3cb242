package tread

import (
	"spindle/api"
	"spindle/ring"
	"spindle/word"
)

// kindCell is the kind of the words that are cells (layer 1).
const kindCell = 2

// sizes: how many fields a cell of each size has.
var sizes = [api.Classes]int{3, 7, 31, 127}

// links: the words of a ring's member ahead of its fields. The first one is nobody's to the rings: a cell's mark.
const links = 3

// The rings: one for each size of the free, the white and the black cells, so that a whole ring becomes another one at once; and one of all cells with which the collector has something to do: the grey ones first, then the weak ones that wait, from the one that has waited longest on.
const (
	freeRing  = 0
	whiteRing = freeRing + api.Classes
	blackRing = whiteRing + api.Classes
	taskRing  = blackRing + api.Classes
	rings     = taskRing + 1
)

// The store has the registers first, then the rings' heads, then the cells.
const (
	firstHead = api.MaxRoots
	firstCell = firstHead + rings*links
)

// What the collector has to do with a cell that isn't white.
const (
	done = iota // nothing: it is black
	scan        // it is grey
	look        // it is black, but waits
)

// mark is what a cell is: its form, its tag, how many fields it has, what the collector has to do with it, and its last cycle: the one at whose end it is free. So no cell needs to be touched when all black ones become white, or all white ones free.
type mark uint64

// Where the parts of a mark begin, from its lowest bits on.
const (
	tagAt  = 2
	sizeAt = tagAt + 4
	taskAt = sizeAt + 7
	lastAt = taskAt + 2
)

// shape is a mark of which nothing is told but what the cell is.
func shape(form, tag, n int) mark { return mark(form) | mark(tag)<<tagAt | mark(n)<<sizeAt }

// with is a mark of the same shape.
func (m mark) with(task, last int) mark {
	return m&(1<<taskAt-1) | mark(task)<<taskAt | mark(last)<<lastAt
}

func (m mark) form() int { return int(m & (1<<tagAt - 1)) }
func (m mark) tag() int  { return int(m >> tagAt & (1<<(sizeAt-tagAt) - 1)) }
func (m mark) size() int { return int(m >> sizeAt & (1<<(taskAt-sizeAt) - 1)) }
func (m mark) task() int { return int(m >> taskAt & (1<<(lastAt-taskAt) - 1)) }
func (m mark) last() int { return int(m >> lastAt) }

// length: the words of a cell of a size.
func length(class int) int { return links + sizes[class] }

// head: where a ring begins.
func head(r int) int { return firstHead + links*r }

// get reads a word. Places that come here are the heap's own, so there is no error to be met; likewise in all that follow.
func (h *Heap) get(i int) uint64 {
	w, _ := h.words.Get(i)
	return w
}

func (h *Heap) set(i int, w uint64) { _ = h.words.Set(i, w) }

func (h *Heap) mark(b int) mark { return mark(h.get(b)) }

// setMark makes a cell one that lasts beyond the cycle that goes on, with a task for the collector.
func (h *Heap) setMark(b int, m mark, task int) { h.set(b, uint64(m.with(task, h.next()))) }

// move takes a cell out of its ring, to stand behind another member.
func (h *Heap) move(b, at int) {
	_ = ring.Remove(h.words, b)
	_ = ring.Insert(h.words, at, b)
}

// lay makes the registers and the rings of a new heap: all cells are free, and the first ones are had first.
func (h *Heap) lay() {
	for i := range api.MaxRoots {
		h.set(i, word.Void())
	}
	for r := range rings {
		_ = ring.Init(h.words, head(r))
	}
	for class, n := range h.counts {
		at := head(freeRing + class)
		for i := range n {
			b := h.bases[class] + i*length(class)
			_ = ring.Insert(h.words, at, b)
			at = b
		}
	}
}

// clear makes a new cell's fields.
func (h *Heap) clear(b, form, n int) {
	w := word.Void()
	if form == raw {
		w = 0
	}
	for i := range n {
		h.set(b+links+i, w)
	}
}

// place is where the cell stands that w names, if it names one.
func (h *Heap) place(w uint64) (int, bool) {
	if word.Kind(w) != kindCell {
		return 0, false
	}
	b := word.Value(w)
	for class, base := range h.bases {
		i := b - base
		if i >= 0 && i < h.counts[class]*length(class) {
			return b, i%length(class) == 0
		}
	}
	return 0, false
}

// find is a cell's mark and place.
func (h *Heap) find(cell uint64) (mark, int, error) {
	if h == nil {
		return 0, 0, api.ErrNil
	}
	b, ok := h.place(cell)
	if !ok {
		return 0, 0, api.ErrArg
	}
	return h.mark(b), b, nil
}

// field is a cell's mark and the place of its field i.
func (h *Heap) field(cell uint64, i int) (mark, int, error) {
	m, b, err := h.find(cell)
	if err != nil {
		return 0, 0, err
	}
	if i < 0 || i >= m.size() {
		return 0, 0, api.ErrRange
	}
	return m, b + links + i, nil
}
