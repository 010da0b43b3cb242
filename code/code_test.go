package code_test

import (
	"errors"
	"reflect"
	"slices"
	"strconv"
	"strings"
	"testing"

	"spindle/api"
	"spindle/code"
)

const (
	minInt = -1 << 63
	maxInt = 1<<63 - 1
)

// isCode tells whether an error is api.ErrCode and no other kind, with neither a place nor a name.
func isCode(e error) bool {
	var at api.At
	var about api.About
	if errors.As(e, &at) || errors.As(e, &about) {
		return false
	}
	for k := api.ErrNil; k <= api.ErrUndefined; k++ {
		if errors.Is(e, k) != (k == api.ErrCode) {
			return false
		}
	}
	return true
}

func num(n int) api.Datum               { return api.Datum{Kind: api.DInt, N: n} }
func str(s string) api.Datum            { return api.Datum{Kind: api.DStr, Text: s} }
func sym(s string) api.Datum            { return api.Datum{Kind: api.DSym, Text: s} }
func list(items ...api.Datum) api.Datum { return api.Datum{Kind: api.DList, Items: items} }
func dot(items ...api.Datum) api.Datum  { return api.Datum{Kind: api.DDot, Items: items} }
func vec(items ...api.Datum) api.Datum  { return api.Datum{Kind: api.DVec, Items: items} }

func konst(d api.Datum) api.Instr  { return api.Instr{Op: api.IConst, Data: d} }
func local(a, b int) api.Instr     { return api.Instr{Op: api.ILocal, A: a, B: b} }
func set(a, b int) api.Instr       { return api.Instr{Op: api.ISet, A: a, B: b} }
func global(name string) api.Instr { return api.Instr{Op: api.IGlobal, Name: name} }
func assign(name string) api.Instr { return api.Instr{Op: api.IAssign, Name: name} }
func define(name string) api.Instr { return api.Instr{Op: api.IDefine, Name: name} }
func unless(a int) api.Instr       { return api.Instr{Op: api.IUnless, A: a} }
func jump(a int) api.Instr         { return api.Instr{Op: api.IJump, A: a} }
func closure(a, b int) api.Instr   { return api.Instr{Op: api.IClosure, A: a, B: b} }
func frame(a int) api.Instr        { return api.Instr{Op: api.IFrame, A: a} }
func push() api.Instr              { return api.Instr{Op: api.IPush} }
func call(a int) api.Instr         { return api.Instr{Op: api.ICall, A: a} }
func tail(a int) api.Instr         { return api.Instr{Op: api.ITail, A: a} }
func back() api.Instr              { return api.Instr{Op: api.IReturn} }
func one() api.Instr               { return konst(num(1)) }

// row puts instructions, and lists of them, one behind the other.
func row(parts ...any) []api.Instr {
	var l []api.Instr
	for _, part := range parts {
		switch part := part.(type) {
		case api.Instr:
			l = append(l, part)
		case []api.Instr:
			l = append(l, part...)
		}
	}
	return l
}

// times are n instructions, all the same.
func times(n int, i api.Instr) []api.Instr { return slices.Repeat(row(i), n) }

// nest is n lists within one another.
func nest(n int) api.Datum {
	d := list()
	for range n - 1 {
		d = list(d)
	}
	return d
}

// may holds that it is code, or that it is none, for all the functions.
func may(t *testing.T, l []api.Instr, want bool) {
	t.Helper()
	e := code.Check(l)
	text, e2 := code.Text(l)
	entries := code.Entries(l)
	stacks, e3 := code.Stacks(l)
	if want {
		if e != nil || e2 != nil || strings.Count(text, "\n") < len(l) || len(entries) == 0 {
			t.Errorf("Check of %.200v = %v, Text: %.100q, %v, Entries: %v; want code", l, e, text, e2, entries)
		}
		return
	}
	if !isCode(e) || text != "" || !isCode(e2) || len(entries) > 0 || len(stacks) > 0 || !isCode(e3) {
		t.Errorf("Check of %.200v = %v, Text: %.100q, %v, Entries: %v, Stacks: %v, %v; want no code", l, e, text, e2, entries, stacks, e3)
	}
}

// alone holds whether an instruction may be at the place 1 of three.
func alone(t *testing.T, i api.Instr, want bool) {
	t.Helper()
	may(t, row(one(), i, back()), want)
}

// P16.1: each instruction may be, within its bounds.
func TestInstructions(t *testing.T) {
	for _, n := range []int{minInt, minInt + 1, -1 << 32, -256, -2, -1, 0, 1, 2, 3, 4, 22, 23, 24, 25, 27, 28, 29, 30, 47, 48, 49, 50, 51, 199, 200, 201, 202, 255, 256, 1 << 32, 1<<32 + 1, maxInt - 1, maxInt} {
		alone(t, local(n, 0), n >= 0 && n <= 200)
		alone(t, local(0, n), n >= 0 && n <= 23)
		alone(t, local(200, n), n >= 0 && n <= 23)
		alone(t, set(n, 0), n >= 0 && n <= 200)
		alone(t, set(n, 23), n >= 0 && n <= 200)
		alone(t, set(0, n), n >= 0 && n <= 23)
		alone(t, unless(n), n >= 0 && n <= 2)
		alone(t, jump(n), n >= 0 && n <= 2)
		alone(t, frame(n), n >= 0 && n <= 2)
		alone(t, closure(n, 0), n >= 0 && n <= 2)
		alone(t, closure(n, 49), n >= 0 && n <= 2)
		alone(t, closure(2, n), n >= 0 && n <= 49 && n != 1)
		alone(t, call(n), n >= 0 && n <= 28)
		alone(t, tail(n), n >= 0 && n <= 28)
	}
	alone(t, push(), true)
	alone(t, back(), true)
	for _, name := range []string{"a", "+", "-", "...", "set!", "<=?", "a.b", "1+", "-a", "a1"} {
		for _, i := range row(global(name), assign(name), define(name)) {
			alone(t, i, true)
		}
	}
	for _, name := range []string{"", " ", "a b", "(", ")", "1", "-1", "+5", ".", "#t", "#", "a\n", "\"a\"", "a;", "'a", "\xff", "é", "x 1", "a\x00"} {
		for _, i := range row(global(name), assign(name), define(name)) {
			alone(t, i, false)
		}
	}
	for _, op := range []int{minInt, -1, 0, 15, 16, 256 + 1, 1<<32 + 11, maxInt} {
		alone(t, api.Instr{Op: op}, false)
		alone(t, api.Instr{Op: op, A: 1, Name: "a"}, false)
	}
}

// P16.1: what a const has is a right datum, nothing in particular, or no value yet.
func TestConsts(t *testing.T) {
	for _, d := range []api.Datum{
		{}, {N: 1}, {Items: []api.Datum{}}, num(0), num(-1 << 60), num(1<<60 - 1), {Kind: api.DBool, N: 1}, {Kind: api.DChar, N: 255}, str(""), str("\xff\x00"), sym("a"), list(), vec(), dot(sym("a"), num(1)), list(list(num(1)), vec(str("a"))),
		nest(64), list(slices.Repeat([]api.Datum{num(1)}, 3999)...), str(strings.Repeat("a", 500)), vec(slices.Repeat([]api.Datum{num(1)}, 121)...),
	} {
		alone(t, konst(d), true)
	}
	round := list(list(), num(1))
	round.Items[0].Items = round.Items
	for _, d := range []api.Datum{
		{N: 2}, {N: -1}, {Text: "a"}, {N: 1, Text: "a"}, {Items: []api.Datum{num(1)}}, num(1 << 60), num(-1<<60 - 1), {Kind: api.DBool, N: 2}, {Kind: api.DChar, N: 256}, sym(""), sym("1"), sym("a b"), {Kind: api.DInt, Text: "a"}, {Kind: 9}, {Kind: -1},
		list(api.Datum{}), list(api.Datum{N: 1}), dot(num(1)), dot(), nest(65), list(slices.Repeat([]api.Datum{num(1)}, 4000)...), str(strings.Repeat("a", 501)), round,
	} {
		alone(t, konst(d), false)
	}
}

// P16.1: fields that an operation doesn't name are zero.
func TestOtherFields(t *testing.T) {
	for _, i := range row(one(), local(1, 2), set(1, 2), global("a"), assign("a"), define("a"), unless(1), jump(1), closure(1, 2), frame(1), push(), call(1), tail(1), back()) {
		alone(t, i, true)
		named := i
		named.Name = "b"
		alone(t, named, i.Name != "")
		for _, d := range []api.Datum{num(0), {N: 1}, sym("a"), list()} {
			with := i
			with.Data = d
			alone(t, with, i.Op == api.IConst)
		}
		for _, d := range []api.Datum{{Text: "a"}, {Items: []api.Datum{{}}}, {N: 2}} {
			with := i
			with.Data = d
			alone(t, with, false)
		}
		empty := i
		empty.Data.Items = []api.Datum{}
		alone(t, empty, true)
		for _, n := range []int{-1, 2, 1 << 40, minInt} {
			with := i
			with.A = n
			named := i.Op != api.IConst && i.Name == "" && i.Op != api.IPush && i.Op != api.IReturn
			alone(t, with, named && n == 2)
			with = i
			with.B = n
			alone(t, with, (i.Op == api.ILocal || i.Op == api.ISet || i.Op == api.IClosure) && n == 2)
		}
	}
}

// P16.1: code are 1 to 8000 instructions, each of which may be, and places are those that it has.
func TestLength(t *testing.T) {
	may(t, nil, false)
	may(t, []api.Instr{}, false)
	for _, n := range []int{1, 2, 7999, 8000} {
		may(t, times(n, back()), true)
		may(t, times(n, jump(n-1)), true)
		may(t, times(n, jump(n)), false)
		may(t, times(n, closure(n-1, 0)), true)
		may(t, times(n, closure(n, 0)), false)
		may(t, times(n, konst(list(sym("a")))), true)
		for _, at := range []int{0, n / 2, n - 1} {
			l := times(n, back())
			l[at] = api.Instr{}
			may(t, l, false)
			l[at] = push()
			may(t, l, true)
		}
	}
	for _, n := range []int{8001, 8002, 16000, 1 << 16} {
		may(t, times(n, back()), false)
		may(t, times(n, api.Instr{}), false)
	}
	may(t, row(jump(0)), true)
	may(t, row(jump(1)), false)
	may(t, times(1<<16, back())[:8000], true)
}

// reads holds the text of code.
func reads(t *testing.T, l []api.Instr, want ...string) {
	t.Helper()
	text := ""
	for place, line := range want {
		text += strconv.Itoa(place) + ": " + line + "\n"
	}
	if got, e := code.Text(l); e != nil || got != text {
		t.Errorf("Text of %.200v = %q, %v; want %q", l, got, e, text)
	}
}

// P16.1: of each instruction a line.
func TestText(t *testing.T) {
	reads(t, row(frame(6), global("f"), push(), one(), push(), call(1), back()), "frame 6", "global f", "push", "const 1", "push", "call 1", "return")
	reads(t, row(local(200, 23), set(10, 0), global("a"), assign("set!"), define("+"), unless(3), jump(0), closure(9, 49), closure(10, 0), frame(2), push(), call(28), tail(0), back()),
		"local 200 23", "set 10 0", "global a", "assign set!", "define +", "unless 3", "jump 0", "closure 9 49", "closure 10 0", "frame 2", "push", "call 28", "tail 0", "return")
	reads(t, row(konst(api.Datum{}), konst(api.Datum{N: 1}), konst(num(-1<<60)), konst(api.Datum{Kind: api.DBool}), konst(api.Datum{Kind: api.DBool, N: 1}), konst(api.Datum{Kind: api.DChar, N: 32}), konst(api.Datum{Kind: api.DChar, N: 65})),
		"const #void", "const #undef", "const -1152921504606846976", "const #f", "const #t", "const #\\space", "const #\\A")
	reads(t, row(konst(str("a\"\\")), konst(sym("x")), konst(list()), konst(vec(num(1), list(sym("a")))), konst(dot(num(1), num(2), sym("b"))), konst(list(sym("quote"), sym("a")))),
		"const \"a\\\"\\\\\"", "const x", "const ()", "const #(1 (a))", "const (1 2 . b)", "const (quote a)")
	reads(t, row(push()), "push")
	var lines []string
	for range 8000 {
		lines = append(lines, "jump 7999")
	}
	reads(t, times(8000, jump(7999)), lines...)
}

// enters holds the entries of code.
func enters(t *testing.T, l []api.Instr, want ...int) {
	t.Helper()
	if got := code.Entries(l); !slices.Equal(got, want) {
		t.Errorf("Entries of %.200v = %v; want %v", l, got, want)
	}
}

// P16.1: where closures' codes begin, and 0, each once, rising, whether it comes to them or not.
func TestEntries(t *testing.T) {
	enters(t, row(back()), 0)
	enters(t, row(unless(1), jump(2), frame(3), push()), 0)
	enters(t, row(closure(0, 0), back()), 0)
	enters(t, row(closure(2, 2), back(), local(0, 0), back()), 0, 2)
	enters(t, row(closure(6, 2), closure(4, 2), closure(6, 0), back(), closure(0, 0), back(), back()), 0, 4, 6)
	enters(t, row(jump(2), closure(3, 0), back(), back()), 0, 3)
	enters(t, row(push(), closure(1, 0)), 0, 1)
	var want []int
	l := make([]api.Instr, 8000)
	for n := range l {
		l[n] = closure(7999-n, 0)
		want = append(want, n)
	}
	enters(t, l, want...)
}

// spoil puts other things into all of a row, into its spare room, too.
func spoil[T any](l []T, with T) {
	for i := range l[:cap(l)] {
		l[:cap(l)][i] = with
	}
}

// What is answered is new memory each time, in each of its lists, and nothing that is handed in is changed or kept.
func TestMemory(t *testing.T) {
	items := make([]api.Datum, 1, 4)
	items[0] = num(5)
	full := row(closure(9, 0), frame(8), global("f"), push(), unless(5), konst(list(items...)), push(), call(1), back(), unless(11), one(), frame(14), push(), call(0), back(), one(), one())
	l := full[:15]
	before := slices.Clone(full)
	stacks, e := code.Stacks(l)
	entries := code.Entries(l)
	if e != nil || len(entries) != 2 || code.Check(l) != nil {
		t.Fatal(stacks, e, entries)
	}
	if _, e := code.Text(l); e != nil {
		t.Fatal(e)
	}
	if !reflect.DeepEqual(full, before) {
		t.Error("what was handed in has changed")
	}
	again, _ := code.Stacks(l)
	for place := range stacks {
		keep := slices.Clone(stacks[place])
		for other := range stacks {
			if other != place {
				spoil(stacks[other], -7)
			}
		}
		if !slices.Equal(stacks[place], keep) {
			t.Errorf("the stack of the place %d shares its memory with another one", place)
		}
		stacks, _ = code.Stacks(l)
	}
	spoil(entries, -7)
	for _, s := range stacks {
		spoil(s, -7)
	}
	spoil(stacks, nil)
	third, _ := code.Stacks(l)
	if !reflect.DeepEqual(again, third) {
		t.Errorf("Stacks answered %v, then %v", again, third)
	}
	enters(t, l, 0, 9)
}
