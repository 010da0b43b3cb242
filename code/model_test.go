package code_test

import (
	"slices"
	"strconv"
	"strings"
	"testing"

	"spindle/api"
	"spindle/code"
)

// dice are numbers that come the same way each time.
type dice uint64

func (d *dice) below(n int) int {
	*d = *d*6364136223846793005 + 1442695040888963407
	return int(uint64(*d) >> 33 % uint64(n))
}

// writer writes code that goes well; what is open is how much was pushed, the innermost frame last.
type writer struct {
	*dice
	code     []api.Instr
	open     []int
	closures []int // where those stand whose codes are still to be written
}

func (w *writer) add(i api.Instr) int {
	w.code = append(w.code, i)
	return len(w.code) - 1
}

// body writes what ends in a procedure's end.
func (w *writer) body(depth int) {
	for range w.below(3) {
		w.value(depth)
	}
	switch w.below(3) {
	case 0:
		w.add(back())
	case 1:
		n := w.pushes(depth)
		w.add(tail(n - 1))
		w.open = ints(0)
	case 2:
		at := w.add(unless(0))
		if depth == 0 {
			w.add(back())
		} else {
			w.body(depth - 1)
		}
		w.code[at].A = len(w.code)
		if w.below(5) == 0 {
			w.add(jump(0))
		} else {
			w.add(back())
		}
	}
}

// pushes writes what pushes one value or some more.
func (w *writer) pushes(depth int) int {
	n := 1 + w.below(3)
	if w.below(20) == 0 {
		n = 29
	}
	for range n {
		if w.below(2) == 0 {
			w.value(depth)
		}
		w.add(push())
		w.open[len(w.open)-1]++
	}
	return n
}

// value writes what leaves all that is pushed as it is.
func (w *writer) value(depth int) {
	if depth == 0 {
		w.add(one())
		return
	}
	switch w.below(9) {
	case 0:
		w.add(local(w.below(201), w.below(24)))
	case 1:
		w.add(set(w.below(201), w.below(24)))
	case 2:
		w.add([]api.Instr{global("a"), assign("b"), define("c")}[w.below(3)])
	case 3:
		w.closures = append(w.closures, w.add(closure(0, 2*w.below(25))))
	case 4:
		at := w.add(unless(0))
		w.value(depth - 1)
		over := w.add(jump(0))
		w.code[at].A = len(w.code)
		w.value(depth - 1)
		w.code[over].A = len(w.code)
	case 5, 6, 7:
		at := w.add(frame(0))
		w.open = append(w.open, 0)
		n := w.pushes(depth - 1)
		w.open = w.open[:len(w.open)-1]
		w.add(call(n - 1))
		w.code[at].A = len(w.code)
	default:
		w.add(one())
	}
}

// goodCode is code that goes well.
func goodCode(d *dice) []api.Instr {
	w := writer{dice: d, open: ints(0)}
	w.body(3)
	for k := 0; k < len(w.closures) && k < 5; k++ {
		w.code[w.closures[k]].A = len(w.code)
		if d.below(5) == 0 {
			// It never comes there, or ends in a circle.
			w.code[w.closures[k]].A = 0
			continue
		}
		w.body(2)
	}
	return w.code
}

// anyInstr is an instruction that code of so many places may have.
func anyInstr(d *dice, places int) api.Instr {
	at := d.below(places)
	return row(one(), local(1, 2), set(3, 4), global("a"), assign("b"), define("c"), unless(at), jump(at), closure(at, 2), frame(at), push(), push(), call(d.below(3)), tail(d.below(3)), back())[d.below(15)]
}

// state is a place to which it comes, and the stack as a text.
type state struct {
	place int
	stack string
}

func stateOf(place int, stack []int) state {
	var b strings.Builder
	for _, n := range stack {
		b.WriteString(strconv.Itoa(n) + " ")
	}
	return state{place, b.String()}
}

// nextOf are the places that follow the last one, each with its stack, whatever that means.
func nextOf(l []api.Instr, place int, stack []int) (places []int, stacks [][]int) {
	i := l[place]
	inner := slices.Clone(stack)
	switch i.Op {
	case api.ICall, api.ITail, api.IReturn:
		return nil, nil
	case api.IJump:
		return ints(i.A), [][]int{stack}
	case api.IUnless:
		return ints(i.A, place+1), [][]int{stack, stack}
	case api.IFrame:
		return ints(i.A, place+1), [][]int{stack, append(inner, 0)}
	case api.IPush:
		inner[len(inner)-1]++
		return ints(place + 1), [][]int{inner}
	case api.IClosure:
		return ints(i.A, place+1), [][]int{{0}, stack}
	}
	return ints(place + 1), [][]int{stack}
}

// model is what Stacks ought to say: all states are gone through that can be come to, as long as they are within the bounds; each is looked at by itself.
func model(l []api.Instr) ([][]int, bool) {
	answer := make([][]int, len(l))
	met := map[state]int{}
	type todo struct {
		place int
		stack []int
	}
	row := []todo{{0, ints(0)}}
	ok := true
	for k := 0; k < len(row) && len(row) < 5000; k++ {
		at := row[k]
		if at.place >= len(l) || len(at.stack) > 200 || slices.Max(at.stack) > 29 {
			return nil, false
		}
		key := stateOf(at.place, at.stack)
		if met[key] > 0 {
			continue
		}
		met[key] = 1
		ok = ok && answer[at.place] == nil
		answer[at.place] = at.stack
		last := at.stack[len(at.stack)-1]
		switch i := l[at.place]; i.Op {
		case api.ICall:
			ok = ok && len(at.stack) >= 2 && last == i.A+1
		case api.ITail:
			ok = ok && len(at.stack) == 1 && last == i.A+1
		case api.IReturn:
			ok = ok && len(at.stack) == 1 && last == 0
		}
		places, stacks := nextOf(l, at.place, at.stack)
		for j := range places {
			row = append(row, todo{places[j], stacks[j]})
		}
	}
	return answer, ok && len(row) < 5000
}

// agree holds Stacks against the model, and tells whether it goes well.
func agree(t *testing.T, l []api.Instr) bool {
	t.Helper()
	if code.Check(l) != nil {
		t.Fatalf("%v is no code", l)
	}
	want, ok := model(l)
	if ok {
		comes(t, l, want...)
	} else {
		well(t, l, false)
	}
	return ok
}

// P16.2: code that goes well, and such code with one thing changed, as a second way to work it out says.
func TestModel(t *testing.T) {
	d := dice(1)
	good, bad := 0, 0
	for range 3000 {
		l := goodCode(&d)
		if len(l) > 1000 {
			continue
		}
		if !agree(t, l) {
			t.Fatalf("the code %v ought to go well", l)
		}
		for range 4 {
			other := slices.Clone(l)
			other[d.below(len(l))] = anyInstr(&d, len(l))
			if agree(t, other) {
				good++
			} else {
				bad++
			}
		}
	}
	for range 20000 {
		l := make([]api.Instr, 1+d.below(7))
		for n := range l {
			l[n] = anyInstr(&d, len(l))
		}
		if agree(t, l) {
			good++
		} else {
			bad++
		}
	}
	if good < 2000 || bad < 2000 {
		t.Errorf("%d go well, %d don't", good, bad)
	}
}

// run goes through code as the machine does, by chance at each unless; it tells whether no call had more, or fewer, than were pushed.
func run(d *dice, l []api.Instr, place int, steps int) bool {
	type open struct{ pushed, behind int }
	frames := []open{{0, -1}}
	for range steps {
		if place >= len(l) {
			return false
		}
		i, last := l[place], &frames[len(frames)-1]
		place++
		switch i.Op {
		case api.IUnless:
			if d.below(2) == 0 {
				place = i.A
			}
		case api.IJump:
			place = i.A
		case api.IFrame:
			frames = append(frames, open{0, i.A})
		case api.IPush:
			last.pushed++
		case api.ICall:
			if last.behind < 0 || last.pushed != i.A+1 {
				return false
			}
			// What is called comes back.
			place = last.behind
			frames = frames[:len(frames)-1]
		case api.ITail:
			return last.behind < 0 && last.pushed == i.A+1
		case api.IReturn:
			return last.behind < 0 && last.pushed == 0
		}
	}
	return true
}

// P16.3: code that goes well never calls with more, or fewer, than were pushed.
func TestCallsHaveWhatWasPushed(t *testing.T) {
	d := dice(2)
	for range 2000 {
		l := goodCode(&d)
		if d.below(2) == 0 {
			l[d.below(len(l))] = anyInstr(&d, len(l))
		}
		stacks, e := code.Stacks(l)
		if e != nil {
			continue
		}
		for _, begin := range code.Entries(l) {
			if len(stacks[begin]) == 0 {
				continue
			}
			for range 5 {
				if !run(&d, l, begin, 2000) {
					t.Fatalf("the code %v goes well, but not when it is run from %d", l, begin)
				}
			}
		}
	}
}
