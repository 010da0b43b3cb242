package tread

import (
	"spindle/api"
	"spindle/ring"
	"spindle/word"
)

// next is the last cycle of a cell that is had now and isn't white.
func (h *Heap) next() int {
	if h.marking {
		return h.cycles + 2
	}
	return h.cycles + 1
}

// isWhite tells whether a cell is free at the end of the cycle that goes on.
func (h *Heap) isWhite(m mark) bool { return h.marking && m.last() == h.cycles+1 }

// isBlack tells whether the cycle that goes on has come to a cell, and will not come to it again.
func (h *Heap) isBlack(m mark) bool { return m.last() == h.next() && m.task() == done }

// increment is a step of the collector.
func (h *Heap) increment() {
	if !h.marking {
		h.flip()
		return
	}
	b, err := ring.Behind(h.words, head(taskRing))
	if err != nil || b == head(taskRing) {
		h.end()
		return
	}
	switch m := h.mark(b); m.task() {
	case scan:
		h.scan(b, m)
	case look:
		h.look(b, m)
	}
}

// flip begins a cycle: all cells that are had are white, and those that registers name are grey.
func (h *Heap) flip() {
	for class := range api.Classes {
		_ = ring.Join(h.words, head(whiteRing+class), head(blackRing+class))
		h.white[class] = h.counts[class] - h.free[class]
	}
	h.marking = true
	for i := range api.MaxRoots {
		h.shade(h.get(i))
	}
}

// end ends a cycle: all white cells are free.
func (h *Heap) end() {
	for class := range api.Classes {
		_ = ring.Join(h.words, head(freeRing+class), head(whiteRing+class))
		h.free[class] += h.white[class]
	}
	h.marking = false
	h.cycles++
}

// shade makes the cell that w names grey, if it is a white one.
func (h *Heap) shade(w uint64) {
	b, ok := h.place(w)
	if !ok || !h.marking {
		return
	}
	m := h.mark(b)
	if !h.isWhite(m) {
		return
	}
	h.white[Class(m.size())]--
	// Keys that were white may be so no more.
	h.missed = 0
	h.setMark(b, m, scan)
	h.move(b, head(taskRing))
}

// guard is the barrier, ahead of w being set where old stands. A cell to which this cycle will not come again must not name a white one: who calls may have kept w since before the flip, and a weak cell may have been the only one to name it.
func (h *Heap) guard(m mark, old, w uint64) {
	switch m.form() {
	case plain:
		h.shade(old)
		fallthrough
	case weak:
		if h.isBlack(m) {
			h.shade(w)
		}
	}
}

// scan makes a grey cell black.
func (h *Heap) scan(b int, m mark) {
	switch m.form() {
	case weak:
		h.waiting++
		h.setMark(b, m, look)
		h.wait(b)
	case plain:
		for i := range m.size() {
			h.shade(h.get(b + links + i))
		}
		fallthrough
	case raw:
		h.finish(b, m)
	}
}

// wait puts a weak cell behind all others that wait.
func (h *Heap) wait(b int) {
	_ = ring.Remove(h.words, b)
	last, _ := ring.Ahead(h.words, head(taskRing))
	_ = ring.Insert(h.words, last, b)
}

// look looks at the weak cell that has waited longest.
func (h *Heap) look(b int, m mark) {
	h.missed++
	switch {
	case !h.namesWhite(h.get(b + links + key)):
		h.missed = 0
		h.shade(h.get(b + links + thing))
	case h.missed >= h.waiting:
		h.set(b+links+key, word.Bool(false))
		h.set(b+links+thing, word.Bool(false))
	default:
		h.wait(b)
		return
	}
	h.waiting--
	h.finish(b, m)
}

// namesWhite tells whether w is a white cell.
func (h *Heap) namesWhite(w uint64) bool {
	b, ok := h.place(w)
	return ok && h.isWhite(h.mark(b))
}

// finish leaves a cell black.
func (h *Heap) finish(b int, m mark) {
	h.setMark(b, m, done)
	h.move(b, head(blackRing+Class(m.size())))
}
