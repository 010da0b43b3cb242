package code

import (
	"slices"

	"spindle/api"
)

const (
	mostOpen   = 200             // numbers of a stack
	mostPushed = api.MaxArgs + 1 // in one frame: what is called, and its arguments
)

// walk goes through right code, along all ways on which it can be gone through.
type walk struct {
	code   []api.Instr
	stacks [][]int // that of each place; none where it didn't come yet
	ahead  []int   // places to which it came, and from which it didn't go on yet
}

// goesWell goes through all of it; it tells whether that goes well.
func (w *walk) goesWell() bool {
	if !w.begin(0) {
		return false
	}
	for len(w.ahead) > 0 {
		last := len(w.ahead) - 1
		place := w.ahead[last]
		w.ahead = w.ahead[:last]
		if !w.leave(place) {
			return false
		}
	}
	return true
}

// begin comes to a place where a procedure begins.
func (w *walk) begin(place int) bool { return w.come(place, []int{0}) }

// come comes to a place with a stack; it tells whether that goes well.
func (w *walk) come(place int, stack []int) bool {
	if place == len(w.code) || len(stack) > mostOpen || stack[len(stack)-1] > mostPushed {
		return false
	}
	if known := w.stacks[place]; known != nil {
		return slices.Equal(known, stack)
	}
	w.stacks[place] = slices.Clone(stack)
	w.ahead = append(w.ahead, place)
	return true
}

// leave goes on from a place to all that may follow; it tells whether that goes well.
func (w *walk) leave(place int) bool {
	i, stack := w.code[place], slices.Clone(w.stacks[place])
	inner := len(stack) - 1
	switch i.Op {
	case api.ICall:
		return inner > 0 && stack[inner] == i.A+1
	case api.IReturn:
		// It asks for nothing pushed, as a tail with one fewer than no arguments would.
		i.A = -1
		fallthrough
	case api.ITail:
		return inner == 0 && stack[inner] == i.A+1
	case api.IUnless:
		if !w.come(place+1, stack) {
			return false
		}
		fallthrough
	case api.IJump:
		return w.come(i.A, stack)
	case api.IFrame:
		return w.come(i.A, stack) && w.come(place+1, append(stack, 0))
	case api.IPush:
		stack[inner]++
	case api.IClosure:
		if !w.begin(i.A) {
			return false
		}
	}
	return w.come(place+1, stack)
}
