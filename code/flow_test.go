package code_test

import (
	"slices"
	"testing"

	"spindle/api"
	"spindle/code"
)

func ints(all ...int) []int { return all }

// none is the stack of a place to which it doesn't come.
var none []int

// comes holds the stacks of code that goes well.
func comes(t *testing.T, l []api.Instr, want ...[]int) {
	t.Helper()
	got, e := code.Stacks(l)
	if e != nil || !slices.EqualFunc(got, want, func(a, b []int) bool { return slices.Equal(a, b) }) {
		t.Errorf("Stacks of %.300v = %.300v, %v; want %.300v", l, got, e, want)
	}
}

// well holds whether code goes well.
func well(t *testing.T, l []api.Instr, want bool) {
	t.Helper()
	if e := code.Check(l); e != nil {
		t.Fatalf("%.300v is no code", l)
	}
	got, e := code.Stacks(l)
	switch {
	case want && (e != nil || len(got) != len(l)):
		t.Errorf("Stacks of %.300v = %.300v, %v; want that it goes well", l, got, e)
	case !want && (!isCode(e) || len(got) > 0):
		t.Errorf("Stacks of %.300v = %.300v, %v; want that it doesn't go well", l, got, e)
	}
}

// P16.2: what is pushed at each place.
func TestStacks(t *testing.T) {
	zero := ints(0)
	comes(t, row(back()), zero)
	comes(t, row(back(), back()), zero, none)
	comes(t, row(frame(6), global("f"), push(), one(), push(), call(1), back()), zero, ints(0, 0), ints(0, 0), ints(0, 1), ints(0, 1), ints(0, 2), zero)
	comes(t, row(global("a"), unless(7), global("f"), push(), one(), push(), tail(1), one(), back()), zero, zero, zero, zero, ints(1), ints(1), ints(2), zero, zero)
	comes(t, row(closure(2, 2), back(), local(0, 0), back()), zero, zero, zero, zero)
	comes(t, row(one(), konst(api.Datum{}), local(3, 4), set(3, 4), global("a"), assign("a"), define("a"), back()), zero, zero, zero, zero, zero, zero, zero, zero)
	one := ints(1)
	comes(t, row(push(), local(1, 1), set(1, 1), assign("a"), define("a"), unless(8), konst(num(1)), global("a"), closure(10, 0), tail(0), back()), zero, one, one, one, one, one, one, one, one, one, zero)
	// A frame within a frame, and one that is opened and never called in.
	comes(t, row(frame(7), global("f"), push(), frame(6), push(), call(0), jump(6), back()), zero, ints(0, 0), ints(0, 0), ints(0, 1), ints(0, 1, 0), ints(0, 1, 1), ints(0, 1), zero)
	comes(t, row(frame(2), jump(1), back()), zero, ints(0, 0), zero)
	comes(t, row(push(), frame(4), frame(5), jump(3), tail(0), jump(5)), zero, one, ints(1, 0), ints(1, 0, 0), one, ints(1, 0))
}

// P16.2: loops, places without a way to them, and ways that meet.
func TestMeeting(t *testing.T) {
	zero := ints(0)
	comes(t, row(jump(0)), zero)
	comes(t, row(unless(0), back()), zero, zero)
	comes(t, row(jump(2), push(), back()), zero, none, zero)
	comes(t, row(jump(2), jump(1), back()), zero, none, zero)
	comes(t, row(jump(3), closure(2, 0), push(), back()), zero, none, none, zero)
	comes(t, row(closure(0, 2), back()), zero, zero)
	comes(t, row(unless(3), push(), tail(0), push(), tail(0)), zero, zero, ints(1), zero, ints(1))
	comes(t, row(unless(1), unless(3), jump(3), back()), zero, zero, zero, zero)
	comes(t, row(jump(2), back(), jump(1)), zero, zero, zero)
	comes(t, row(push(), jump(3), tail(28), unless(1), tail(0)), zero, ints(1), none, ints(1), ints(1))
	// What it doesn't come to may be anything that code may have.
	for _, i := range row(one(), push(), call(28), tail(28), back(), unless(1), jump(0), frame(0), closure(1, 0), local(200, 23)) {
		comes(t, row(back(), i), zero, none)
		comes(t, row(jump(2), i, back()), zero, none, zero)
	}
}

// P16.2: it never comes beyond the last place.
func TestBeyond(t *testing.T) {
	for _, i := range row(one(), local(0, 0), set(0, 0), global("a"), assign("a"), define("a"), push(), unless(0), frame(0), closure(0, 0)) {
		well(t, row(i), false)
		well(t, row(jump(1), i), false)
		well(t, row(jump(2), i, back()), true)
		well(t, row(back(), i), true)
		well(t, row(closure(2, 0), back(), i), false)
	}
	well(t, row(unless(2), back(), one()), false)
	well(t, row(frame(2), jump(1), one()), false)
	well(t, row(jump(0)), true)
	well(t, row(back()), true)
	well(t, times(8000, one()), false)
	well(t, append(times(7999, one()), back()), true)
	well(t, append(times(7999, unless(0)), jump(5)), true)
}

// P16.2: it never comes to one place with two unlike stacks.
func TestUnlike(t *testing.T) {
	well(t, row(frame(1), jump(1)), false)
	well(t, row(push(), jump(0)), false)
	well(t, row(frame(0), jump(0)), false)
	well(t, row(push(), unless(0), tail(0)), false)
	well(t, row(unless(2), push(), jump(2)), false)
	well(t, row(push(), unless(3), push(), tail(1)), false)
	well(t, row(push(), unless(3), push(), tail(0)), false)
	well(t, row(unless(3), frame(0), jump(2), jump(3)), true)
	well(t, row(unless(3), frame(2), jump(2), jump(3)), false)
	// A procedure begins with nothing pushed, whatever is where the closure stands.
	well(t, row(push(), closure(3, 0), tail(0), back()), true)
	well(t, row(push(), closure(2, 0), tail(0)), false)
	well(t, row(push(), closure(1, 0), tail(0)), false)
	well(t, row(push(), closure(0, 0), tail(0)), true)
	well(t, row(frame(4), closure(1, 0), push(), call(0), back()), false)
	well(t, row(frame(4), closure(0, 0), push(), call(0), back()), true)
	well(t, row(jump(2), closure(3, 0), push(), tail(0)), true)
	// As many frames, and as much in all, but not in each.
	inner := row(frame(9), push(), frame(9), push(), push(), jump(9))
	well(t, row(inner, push(), push(), push(), jump(9)), false)
	well(t, row(unless(6), frame(5), push(), frame(11), jump(4), back(), frame(5), push(), frame(11), jump(9), back(), jump(11)), true)
	well(t, row(unless(6), frame(5), push(), frame(11), jump(4), back(), frame(5), push(), push(), frame(11), jump(10), jump(11)), false)
}

// P16.2: what calls, tails and returns are come to with.
func TestEnds(t *testing.T) {
	for pushed := range 30 {
		for a := range 29 {
			well(t, row(times(pushed, push()), tail(a)), pushed == a+1)
			well(t, row(times(pushed, push()), call(a)), false)
			well(t, row(frame(pushed+2), times(pushed, push()), call(a), back()), pushed == a+1)
			well(t, row(frame(pushed+2), times(pushed, push()), tail(a), back()), false)
			well(t, row(push(), frame(pushed+3), times(pushed, push()), call(a), tail(0)), pushed == a+1)
			well(t, row(push(), frame(pushed+3), times(pushed, push()), tail(a), tail(0)), false)
			well(t, row(times(a, push()), frame(a+pushed+2), times(pushed, push()), call(a), push(), tail(a)), pushed == a+1)
		}
		well(t, row(times(pushed, push()), back()), pushed == 0)
		well(t, row(frame(pushed+2), times(pushed, push()), back(), back()), false)
	}
}

// P16.2: no number is above 29.
func TestPushed(t *testing.T) {
	for n := range 40 {
		well(t, row(times(n, push()), jump(n)), n <= 29)
		well(t, row(frame(n+1), times(n, push()), jump(n+1)), false)
		well(t, row(frame(n+2), times(n, push()), jump(n+1), back()), n <= 29)
		well(t, row(push(), frame(n+3), times(n, push()), jump(n+2), tail(0)), n <= 29)
		well(t, row(times(n, push()), frame(n+2), jump(n+1), jump(n+2)), n <= 29)
	}
	well(t, append(times(7999, push()), back()), false)
}

// opens is code that opens so many frames within one another, the innermost one having pushed some.
func opens(n, pushed int) []api.Instr {
	l := times(n, api.Instr{})
	end := n + pushed
	for at := range l {
		l[at] = frame(end + n - at)
	}
	l = row(l, times(pushed, push()), jump(end))
	for range n {
		l = append(l, jump(len(l)))
	}
	return l
}

// P16.2: no stack has more than 200 numbers.
func TestOpen(t *testing.T) {
	for _, n := range []int{0, 1, 2, 100, 198, 199, 200, 201, 255, 256, 257, 400} {
		for _, pushed := range []int{0, 1, 29, 30} {
			well(t, opens(n, pushed), n < 200 && pushed < 30)
		}
	}
	got, e := code.Stacks(opens(199, 3))
	if e != nil || !slices.Equal(got[198], make([]int, 199)) || !slices.Equal(got[202], append(make([]int, 199), 3)) || !slices.Equal(got[203], make([]int, 199)) {
		t.Errorf("Stacks of 199 open frames: %v", e)
	}
}

// P16.2: the longest code, with many long stacks.
func TestMany(t *testing.T) {
	l := opens(199, 0)
	// All other places are come to with all frames open.
	l[199] = jump(len(l))
	l = row(l, times(8000-len(l)-1, unless(199)), jump(199))
	got, e := code.Stacks(l)
	if e != nil || len(got) != 8000 {
		t.Fatal(len(got), e)
	}
	for place := 399; place < 8000; place++ {
		if !slices.Equal(got[place], make([]int, 200)) {
			t.Fatalf("the stack of %d is %v", place, got[place])
		}
	}
}
