package compile_test

import (
	"errors"
	"reflect"
	"slices"
	"strconv"
	"strings"
	"testing"

	"spindle/api"
	"spindle/code"
	"spindle/compile"
	"spindle/term"
)

const (
	minInt = -1 << 63
	maxInt = 1<<63 - 1
)

// isKind tells whether an error is of this kind and no other one, with neither a place nor a name.
func isKind(e error, want api.Kind) bool {
	var at api.At
	var about api.About
	if errors.As(e, &at) || errors.As(e, &about) {
		return false
	}
	for k := api.ErrNil; k <= api.ErrUndefined; k++ {
		if errors.Is(e, k) != (k == want) {
			return false
		}
	}
	return true
}

func num(n int) api.Datum               { return api.Datum{Kind: api.DInt, N: n} }
func str(s string) api.Datum            { return api.Datum{Kind: api.DStr, Text: s} }
func sym(s string) api.Datum            { return api.Datum{Kind: api.DSym, Text: s} }
func list(items ...api.Datum) api.Datum { return api.Datum{Kind: api.DList, Items: items} }
func dot(items ...api.Datum) api.Datum  { return api.Datum{Kind: api.DDot, Items: items} }
func vec(items ...api.Datum) api.Datum  { return api.Datum{Kind: api.DVec, Items: items} }

func quote(d api.Datum) api.Term       { return api.Term{Kind: api.CQuote, Data: d} }
func one() api.Term                    { return quote(num(1)) }
func void() api.Term                   { return quote(api.Datum{}) }
func undef() api.Term                  { return quote(api.Datum{N: 1}) }
func local(n int) api.Term             { return api.Term{Kind: api.CLocal, N: n} }
func global(s string) api.Term         { return api.Term{Kind: api.CGlobal, Name: s} }
func set(n int, kid api.Term) api.Term { return api.Term{Kind: api.CSet, N: n, Kids: terms(kid)} }
func assign(s string, kid api.Term) api.Term {
	return api.Term{Kind: api.CAssign, Name: s, Kids: terms(kid)}
}
func define(s string, kid api.Term) api.Term {
	return api.Term{Kind: api.CDefine, Name: s, Kids: terms(kid)}
}
func cond(kids ...api.Term) api.Term  { return api.Term{Kind: api.CIf, Kids: kids} }
func begin(kids ...api.Term) api.Term { return api.Term{Kind: api.CBegin, Kids: kids} }
func call(kids ...api.Term) api.Term  { return api.Term{Kind: api.CCall, Kids: kids} }
func lambda(params []int, kids ...api.Term) api.Term {
	return api.Term{Kind: api.CLambda, Params: params, Kids: kids}
}
func rest(params []int, kid api.Term) api.Term {
	return api.Term{Kind: api.CLambda, N: 1, Params: params, Kids: terms(kid)}
}

func terms(all ...api.Term) []api.Term { return all }
func ints(all ...int) []int            { return all }

// upTo are the numbers from the first one to the last one.
func upTo(first, last int) []int {
	var all []int
	for n := first; n <= last; n++ {
		all = append(all, n)
	}
	return all
}

// times are n terms, all the same.
func times(n int, t api.Term) []api.Term { return slices.Repeat(terms(t), n) }

// shown is a term's text, or how that begins.
func shown(x api.Term) string {
	text, _ := term.Text(x)
	return text[:min(len(text), 300)]
}

// lines are the texts of a program's instructions, without their places.
func lines(t *testing.T, x api.Term) []string {
	t.Helper()
	l, e := compile.Compile(x)
	text, e2 := code.Text(l)
	if e != nil || e2 != nil {
		t.Errorf("Compile of %s: %d instructions, %v, %v", shown(x), len(l), e, e2)
		return nil
	}
	goesWell(t, x, l)
	all := strings.Split(strings.TrimSuffix(text, "\n"), "\n")
	for at, line := range all {
		all[at] = strings.TrimPrefix(line, strconv.Itoa(at)+": ")
	}
	return all
}

// becomes holds a program's code, and its length; want are its instructions, with a semicolon and a blank between any two.
func becomes(t *testing.T, x api.Term, want string) {
	t.Helper()
	got := lines(t, x)
	if strings.Join(got, "; ") != want {
		t.Errorf("Compile of %s = %.300q; want %.300q", shown(x), strings.Join(got, "; "), want)
	}
	if n := compile.Length(x); n != len(got) {
		t.Errorf("Length of %s = %d; want %d", shown(x), n, len(got))
	}
}

// P17.1: the chapter's examples.
func TestExamples(t *testing.T) {
	becomes(t, cond(global("a"), call(global("f"), one()), quote(num(2))), "global a; unless 7; global f; push; const 1; push; tail 1; const 2; return")
	becomes(t, lambda(ints(1), local(1)), "closure 2 2; return; local 0 0; return")
	l, e := compile.Compile(cond(global("a"), call(global("f"), one()), quote(num(2))))
	want := []api.Instr{{Op: api.IGlobal, Name: "a"}, {Op: api.IUnless, A: 7}, {Op: api.IGlobal, Name: "f"}, {Op: api.IPush}, {Op: api.IConst, Data: num(1)}, {Op: api.IPush}, {Op: api.ITail, A: 1}, {Op: api.IConst, Data: num(2)}, {Op: api.IReturn}}
	if e != nil || !reflect.DeepEqual(l, want) {
		t.Errorf("Compile = %v, %v; want %v", l, e, want)
	}
	l, e = compile.Compile(lambda(ints(1), local(1)))
	want = []api.Instr{{Op: api.IClosure, A: 2, B: 2}, {Op: api.IReturn}, {Op: api.ILocal}, {Op: api.IReturn}}
	if e != nil || !reflect.DeepEqual(l, want) {
		t.Errorf("Compile = %v, %v; want %v", l, e, want)
	}
}

// P17.1: what is quoted, globals, and what is set.
func TestPlainTerms(t *testing.T) {
	a := global("a")
	for _, c := range []struct {
		t    api.Term
		want string
	}{
		{one(), "const 1; return"}, {void(), "const #void; return"}, {undef(), "const #undef; return"}, {quote(list()), "const (); return"}, {quote(sym("a")), "const a; return"},
		{quote(dot(sym("a"), vec(str("b"), num(-7)), api.Datum{Kind: api.DChar, N: 65})), `const (a #("b" -7) . #\A); return`}, {quote(api.Datum{Kind: api.DBool}), "const #f; return"},
		{a, "global a; return"}, {global("+"), "global +; return"},
		{assign("b", a), "global a; assign b; return"}, {define("b", a), "global a; define b; return"}, {define("a", assign("b", define("c", one()))), "const 1; define c; assign b; define a; return"},
		{define("f", call(a)), "frame 4; global a; push; call 0; define f; return"}, {assign("f", cond(a, one())), "global a; unless 4; const 1; jump 5; const #void; assign f; return"}, {define("f", begin(a, one())), "global a; const 1; define f; return"},
	} {
		becomes(t, c.t, c.want)
	}
}

// P17.1: locals, with the places where they are found.
func TestLocals(t *testing.T) {
	for _, c := range []struct {
		t    api.Term
		want string
	}{
		{lambda(ints(7, 3), local(3)), "closure 2 4; return; local 0 1; return"}, {lambda(ints(3, 7), local(3)), "closure 2 4; return; local 0 0; return"}, {lambda(ints(maxInt), set(maxInt, one())), "closure 2 2; return; const 1; set 0 0; return"},
		{lambda(ints(5, 6), lambda(nil, lambda(ints(4), set(6, local(5))))), "closure 2 4; return; closure 4 0; return; closure 6 2; return; local 2 0; set 2 1; return"},
		{lambda(ints(5, 6), set(5, set(6, local(5)))), "closure 2 4; return; local 0 0; set 0 1; set 0 0; return"},
		{lambda(ints(9), begin(lambda(ints(8), local(9)), local(9))), "closure 2 2; return; closure 5 2; local 0 0; return; local 1 0; return"},
		{lambda(ints(9), set(9, call(local(9)))), "closure 2 2; return; frame 6; local 0 0; push; call 0; set 0 0; return"},
		{lambda(upTo(1, 24), begin(local(1), local(24), set(23, one()))), "closure 2 48; return; local 0 0; local 0 23; const 1; set 0 22; return"},
	} {
		becomes(t, c.t, c.want)
	}
	// Each index, as many ribs up as there may be.
	for _, up := range ints(0, 1, 2, 7, 8, 31, 32, 63, 64, 100, 197, 198) {
		for _, index := range ints(0, 1, 22, 23) {
			x, want := local(24*(198-up)+index+1), ""
			for n := 198; n >= 0; n-- {
				x = lambda(upTo(24*n+1, 24*n+24), x)
				want = "closure " + strconv.Itoa(2*n+2) + " 48; return; " + want
			}
			becomes(t, x, want+"local "+strconv.Itoa(up)+" "+strconv.Itoa(index)+"; return")
		}
	}
}

// P17.1: a CIf, last or not, with a third Kid or without.
func TestChoices(t *testing.T) {
	a, b, c := global("a"), global("b"), global("c")
	f := call(global("f"))
	for _, k := range []struct {
		t    api.Term
		want string
	}{
		{cond(a, b, c), "global a; unless 4; global b; return; global c; return"}, {cond(a, b), "global a; unless 4; global b; return; const #void; return"}, {cond(a, b, void()), "global a; unless 4; global b; return; const #void; return"}, {cond(a, b, undef()), "global a; unless 4; global b; return; const #undef; return"},
		{begin(cond(a, b, c), one()), "global a; unless 4; global b; jump 5; global c; const 1; return"}, {begin(cond(a, b), one()), "global a; unless 4; global b; jump 5; const #void; const 1; return"},
		{cond(a, f, f), "global a; unless 5; global f; push; tail 0; global f; push; tail 0"}, {cond(a, f), "global a; unless 5; global f; push; tail 0; const #void; return"}, {cond(f, a), "frame 4; global f; push; call 0; unless 7; global a; return; const #void; return"},
		{begin(cond(a, f, f), a), "global a; unless 7; frame 6; global f; push; call 0; jump 11; frame 11; global f; push; call 0; global a; return"},
		// Within one another.
		{cond(cond(a, b, c), a, b), "global a; unless 4; global b; jump 5; global c; unless 8; global a; return; global b; return"}, {cond(cond(a, b), a), "global a; unless 4; global b; jump 5; const #void; unless 8; global a; return; const #void; return"},
		{cond(a, cond(b, c), b), "global a; unless 8; global b; unless 6; global c; return; const #void; return; global b; return"}, {cond(a, b, cond(b, c)), "global a; unless 4; global b; return; global b; unless 8; global c; return; const #void; return"},
		{begin(cond(a, cond(a, b, c), cond(a, b)), c), "global a; unless 8; global a; unless 6; global b; jump 7; global c; jump 13; global a; unless 12; global b; jump 13; const #void; global c; return"},
		{cond(a, begin(b, f), begin(f, b)), "global a; unless 6; global b; global f; push; tail 0; frame 10; global f; push; call 0; global b; return"},
		{cond(assign("a", b), define("b", c), define("c", a)), "global b; assign a; unless 6; global c; define b; return; global a; define c; return"},
	} {
		becomes(t, k.t, k.want)
	}
}

// P17.1: a CBegin, last or not.
func TestSeries(t *testing.T) {
	a, b := global("a"), global("b")
	f := call(global("f"))
	for _, c := range []struct {
		t    api.Term
		want string
	}{
		{begin(a), "global a; return"}, {begin(a, b), "global a; global b; return"}, {begin(a, b, a, one()), "global a; global b; global a; const 1; return"}, {begin(begin(begin(a))), "global a; return"}, {begin(begin(a, b), begin(b, a)), "global a; global b; global b; global a; return"},
		{begin(f), "global f; push; tail 0"}, {begin(f, f), "frame 4; global f; push; call 0; global f; push; tail 0"}, {begin(begin(a, f), f), "global a; frame 5; global f; push; call 0; global f; push; tail 0"}, {begin(f, begin(a, f)), "frame 4; global f; push; call 0; global a; global f; push; tail 0"},
		{begin(cond(a, b), cond(a, b)), "global a; unless 4; global b; jump 5; const #void; global a; unless 9; global b; return; const #void; return"}, {call(begin(a, b)), "global a; global b; push; tail 0"}, {call(begin(a, f)), "global a; frame 5; global f; push; call 0; push; tail 0"},
	} {
		becomes(t, c.t, c.want)
	}
}

// P17.1: a CCall, last or not, with all numbers of Kids.
func TestCalls(t *testing.T) {
	a, f, g := global("a"), global("f"), global("g")
	for _, c := range []struct {
		t    api.Term
		want string
	}{
		{call(f), "global f; push; tail 0"}, {call(f, a), "global f; push; global a; push; tail 1"}, {call(f, a, one()), "global f; push; global a; push; const 1; push; tail 2"}, {begin(call(f, a), a), "frame 6; global f; push; global a; push; call 1; global a; return"},
		{call(call(f)), "frame 4; global f; push; call 0; push; tail 0"}, {call(call(call(f))), "frame 7; frame 5; global f; push; call 0; push; call 0; push; tail 0"}, {call(f, call(g, a), a), "global f; push; frame 8; global g; push; global a; push; call 1; push; global a; push; tail 2"},
		{call(f, cond(a, call(g))), "global f; push; global a; unless 9; frame 8; global g; push; call 0; jump 10; const #void; push; tail 1"}, {call(assign("a", f), define("b", g)), "global f; assign a; push; global g; define b; push; tail 1"}, {call(f, void(), undef()), "global f; push; const #void; push; const #undef; push; tail 2"},
	} {
		becomes(t, c.t, c.want)
	}
	for n := range 29 {
		args := strings.Repeat("; global a; push", n)
		becomes(t, call(append(terms(f), times(n, a)...)...), "global f; push"+args+"; tail "+strconv.Itoa(n))
		becomes(t, begin(call(append(terms(f), times(n, a)...)...), a), "frame "+strconv.Itoa(2*n+4)+"; global f; push"+args+"; call "+strconv.Itoa(n)+"; global a; return")
	}
}

// P17.1: closures, and where their procedures' codes stand.
func TestProcedures(t *testing.T) {
	a, b := global("a"), global("b")
	named := func(s string, inner ...api.Term) api.Term {
		return lambda(nil, begin(append(inner, global(s))...))
	}
	for _, c := range []struct {
		t    api.Term
		want string
	}{
		{lambda(nil, a), "closure 2 0; return; global a; return"}, {lambda(ints(3, 2, 1), a), "closure 2 6; return; global a; return"}, {rest(ints(1), a), "closure 2 3; return; global a; return"}, {rest(ints(1, 2, 3), a), "closure 2 7; return; global a; return"}, {rest(upTo(1, 24), a), "closure 2 49; return; global a; return"}, {lambda(upTo(1, 24), a), "closure 2 48; return; global a; return"},
		// What is last in a procedure is last, wherever its closure stands.
		{begin(lambda(nil, call(a)), b), "closure 3 0; global b; return; global a; push; tail 0"}, {define("f", lambda(nil, cond(a, call(b)))), "closure 3 0; define f; return; global a; unless 8; global b; push; tail 0; const #void; return"}, {call(lambda(ints(1), call(local(1))), a), "closure 5 2; push; global a; push; tail 1; local 0 0; push; tail 0"},
		{begin(call(lambda(nil, a)), b), "frame 4; closure 6 0; push; call 0; global b; return; global a; return"},
		// In the order in which their closures stand.
		{begin(lambda(nil, a), lambda(nil, b)), "closure 3 0; closure 5 0; return; global a; return; global b; return"}, {cond(lambda(nil, a), lambda(nil, b), lambda(nil, one())), "closure 6 0; unless 4; closure 8 0; return; closure 10 0; return; global a; return; global b; return; const 1; return"},
		{begin(named("a", named("b", named("c")), named("d")), named("e", named("f"))), "closure 3 0; closure 7 0; return; closure 10 0; closure 13 0; global a; return; closure 15 0; global e; return; closure 17 0; global b; return; global d; return; global f; return; global c; return"},
		{call(a, lambda(nil, lambda(nil, a)), lambda(nil, b)), "global a; push; closure 7 0; push; closure 9 0; push; tail 2; closure 11 0; return; global b; return; global a; return"},
	} {
		becomes(t, c.t, c.want)
	}
}

// nestings are ways in which a term stands within a right one that has no locals of its own.
func nestings(t api.Term) []api.Term {
	a := global("a")
	return terms(t, assign("a", t), define("a", t), cond(t, a), cond(a, t), cond(a, a, t), lambda(nil, t), rest(ints(100, 101), t), lambda(ints(100), set(100, t)), begin(t), begin(a, t), call(t), call(a, t, a))
}

// refused holds that a term that isn't right has no code.
func refused(t *testing.T, x api.Term) {
	t.Helper()
	if e := term.Check(x); e == nil {
		t.Fatalf("%s is right", shown(x))
	}
	if got, e := compile.Compile(x); !isKind(e, api.ErrForm) || len(got) != 0 {
		t.Errorf("Compile of a term of kind %d: %d instructions, %v; want form", x.Kind, len(got), e)
	}
	if n := compile.Length(x); n != 0 {
		t.Errorf("Length of a term of kind %d: %d; want 0", x.Kind, n)
	}
}

// P17.1: terms that aren't right.
func TestWrongTerms(t *testing.T) {
	a := global("a")
	for _, x := range []api.Term{
		{}, {Kind: 11}, {Kind: -1}, {Kind: minInt}, {Kind: maxInt}, {Kind: 11, Kids: terms(a)}, {Kind: api.CGlobal, N: 1, Name: "a"}, global(""), global("7"), assign("a b", a), define("", a), {Kind: api.CQuote, Name: "a"}, {Kind: api.CQuote, Kids: terms(a)}, {Kind: api.CIf, N: 1, Kids: terms(a, a)},
		quote(num(1 << 60)), quote(api.Datum{N: 2}), quote(dot(sym("a"), list())), quote(list(api.Datum{})), cond(), cond(a), cond(a, a, a, a), begin(), call(), call(times(30, a)...), lambda(nil), lambda(nil, a, a),
		local(1), local(0), local(-1), local(minInt), set(1, a), lambda(ints(1), local(2)), lambda(ints(1), set(2, a)), begin(lambda(ints(1), a), local(1)), {Kind: api.CSet, N: 1}, {Kind: api.CAssign, Name: "a"}, {Kind: api.CDefine, Name: "a", Kids: terms(a, a)},
		lambda(ints(1, 1), a), lambda(ints(0), a), lambda(ints(1), lambda(ints(1), a)), begin(lambda(ints(1), a), lambda(ints(1), a)), lambda(upTo(1, 25), a), rest(nil, a), {Kind: api.CLambda, N: 2, Params: ints(1), Kids: terms(a)}, {Kind: api.CLambda, N: -1, Params: ints(1), Kids: terms(a)},
		begin(times(4000, a)...), begin(times(1<<16, a)...),
	} {
		for _, y := range nestings(x) {
			refused(t, y)
		}
	}
}

// P17.1: terms that go round, and ones within one another up to the bound and beyond.
func TestEndlessAndDeepTerms(t *testing.T) {
	round := begin(global("a"))
	round.Kids[0] = round
	refused(t, round)
	loop := list(sym("a"))
	loop.Items[0] = loop
	refused(t, quote(loop))
	for _, wrap := range []func(x api.Term) api.Term{
		func(x api.Term) api.Term { return begin(x) }, func(x api.Term) api.Term { return call(x) }, func(x api.Term) api.Term { return cond(x, x) }, func(x api.Term) api.Term { return lambda(nil, x) }, func(x api.Term) api.Term { return define("a", x) },
	} {
		x := global("a")
		for range 1 << 10 {
			x = wrap(x)
		}
		refused(t, x)
	}
	for n := 195; n <= 205; n++ {
		x := global("a")
		for range n - 1 {
			x = call(x)
		}
		if n > 200 {
			refused(t, x)
		} else if got := len(lines(t, x)); got != 3*n-3 {
			t.Errorf("%d calls have %d instructions; want %d", n-1, got, 3*n-3)
		}
	}
}

// P17.2: as many frames open as may be, and as much pushed in each.
func TestFullStacks(t *testing.T) {
	a := global("a")
	for _, wide := range []int{1, 2, 15} {
		x := call(times(29, a)...)
		for n := range 197 {
			kids := times(wide, a)
			kids[n%wide] = x
			x = call(kids...)
		}
		l, e := compile.Compile(begin(x, a))
		if e != nil {
			t.Fatal(e)
		}
		goesWell(t, x, l)
		stacks, _ := code.Stacks(l)
		frames, pushed := 0, 0
		for _, s := range stacks {
			frames, pushed = max(frames, len(s)), max(pushed, slices.Max(s))
		}
		if frames != 199 || pushed != 29 {
			t.Errorf("at most %d numbers, and %d pushed", frames, pushed)
		}
	}
}

// long is a program whose code has n instructions; it has no more than one procedure for each of lambdas.
func long(n, lambdas int) api.Term {
	const calls, length = 10, 3 * 10
	chain := global("a")
	for range calls {
		chain = call(chain)
	}
	var kids []api.Term
	n -= 2
	// The last one of a procedure is a tail, and needs no frame; its closure makes up for that.
	for ; lambdas > 0; lambdas-- {
		kids = append(kids, lambda(nil, chain))
		n -= length + 1
	}
	for ; n > length; n -= length + 1 {
		kids = append(kids, chain)
	}
	return begin(append(kids, times(n+1, global("a"))...)...)
}

// P17.1: code of 8000 instructions, and longer code.
func TestLongCode(t *testing.T) {
	for _, lambdas := range []int{0, 1, 7, 200, 250} {
		for _, n := range []int{7000 + 31*31, 7990, 7998, 7999, 8000, 8001, 8002, 8050, 10000, 10500} {
			x := long(n, lambdas)
			if e := term.Check(x); e != nil {
				t.Fatalf("a program of %d parts: %v", term.Parts(x), e)
			}
			if got := compile.Length(x); got != n {
				t.Errorf("Length of code with %d procedures = %d; want %d", lambdas, got, n)
			}
			got, e := compile.Compile(x)
			if n <= 8000 && (e != nil || len(got) != n) {
				t.Errorf("Compile to %d instructions with %d procedures: %d, %v", n, lambdas, len(got), e)
			}
			if n <= 8000 {
				goesWell(t, x, got)
			}
			if n > 8000 && (!isKind(e, api.ErrLong) || len(got) != 0) {
				t.Errorf("Compile to %d instructions with %d procedures: %d, %v; want long", n, lambdas, len(got), e)
			}
			if n == 10500 {
				// What isn't right is told ahead of what is too long.
				refused(t, begin(append(x.Kids, local(1))...))
			}
		}
	}
}

// scribble changes all that stands in code, its spare room too.
func scribble(l []api.Instr) {
	l = l[:cap(l)]
	for at := range l {
		scribbleData(l[at].Data.Items)
		l[at] = api.Instr{Op: -99, Name: "spoilt"}
	}
}

func scribbleData(items []api.Datum) {
	items = items[:cap(items)]
	for i := range items {
		scribbleData(items[i].Items)
		items[i] = api.Datum{Kind: -99}
	}
}

// P17.1: what is answered is new memory: it shares nothing with what was handed in, and no two of its lists share any.
func TestAnswersAreNew(t *testing.T) {
	d := list(sym("a"), vec(num(1), list(str("b"))))
	shared := quote(d)
	fresh := func() api.Term {
		return begin(shared, quote(d), quote(d.Items[1]), define("x", shared), lambda(ints(1), shared), cond(shared, shared))
	}
	x := fresh()
	want := `const (a #(1 ("b"))); const (a #(1 ("b"))); const #(1 ("b")); const (a #(1 ("b"))); define x; closure 12 2; const (a #(1 ("b"))); unless 10; const (a #(1 ("b"))); return; const #void; return; const (a #(1 ("b"))); return`
	becomes(t, x, want)
	l, _ := compile.Compile(x)
	scribble(l)
	becomes(t, x, want)
	if !reflect.DeepEqual(d, list(sym("a"), vec(num(1), list(str("b"))))) {
		t.Errorf("what was handed in is another one now: %v", d)
	}
	// One datum after the other is changed in a new answer; the others stay.
	same, _ := compile.Compile(x)
	for n := range same {
		l, _ := compile.Compile(x)
		scribbleData(l[n].Data.Items)
		for k := range l {
			if k != n && !reflect.DeepEqual(l[k], same[k]) {
				t.Errorf("the instructions %d and %d of the answer share memory", n, k)
			}
		}
	}
}

// P17.1: what is handed in stays as it is, its spare room too, and the same is told of it again.
func TestNothingIsChanged(t *testing.T) {
	params, items := ints(9, 8, 77), []api.Datum{sym("b"), sym("c"), sym("spare")}
	kids := terms(local(8), set(9, quote(list(items[:2]...))), lambda(ints(5), call(local(5), local(8))), global("spare"))
	choice := terms(global("a"), global("b"), global("spare"))
	x := lambda(params[:2], begin(api.Term{Kind: api.CBegin, Kids: kids[:3]}, cond(choice[:2]...)))
	for range 3 {
		becomes(t, x, "closure 2 4; return; local 0 1; const (b c); set 0 0; closure 12 2; global a; unless 10; global b; return; const #void; return; local 0 0; push; local 1 1; push; tail 1")
	}
	if !reflect.DeepEqual(params, ints(9, 8, 77)) || !reflect.DeepEqual(items, []api.Datum{sym("b"), sym("c"), sym("spare")}) || !reflect.DeepEqual(choice, terms(global("a"), global("b"), global("spare"))) ||
		!reflect.DeepEqual(kids, terms(local(8), set(9, quote(list(items[:2]...))), lambda(ints(5), call(local(5), local(8))), global("spare"))) {
		t.Errorf("the term is another one now: %v", x)
	}
	if got := compile.Length(x); got != 17 || len(x.Params) != 2 || len(x.Kids[0].Kids[0].Kids) != 3 || len(x.Kids[0].Kids[1].Kids) != 2 {
		t.Errorf("the term is another one now: %v, %d", x, got)
	}
}
