package scope_test

import (
	"testing"

	"spindle/api"
	"spindle/scope"
	"spindle/term"
)

// has holds what is free in a term.
func has(t *testing.T, x api.Term, want ...int) {
	t.Helper()
	if got := scope.Free(x); !equalInts(got, want) {
		t.Errorf("Free of %v = %v; want %v", x, got, want)
	}
}

// P15.2: the chapter's example, and procedures that take locals from around them, or none.
func TestFree(t *testing.T) {
	a := global("a")
	has(t, lambda(ints(3), call(local(2), local(3))), 2)
	has(t, lambda(ints(1, 2), lambda(ints(3), call(local(2), local(3)))))
	for _, c := range []struct {
		t    api.Term
		want []int
	}{
		{lambda(nil, a), nil}, {lambda(nil, void()), nil}, {lambda(ints(1), local(1)), nil}, {lambda(ints(1), set(1, local(1))), nil}, {rest(ints(2, 1), begin(local(1), local(2))), nil}, {lambda(upTo(1, 24), call(local(1), local(12), set(24, a))), nil},
		{lambda(nil, local(1)), ints(1)}, {lambda(ints(2), local(1)), ints(1)}, {rest(ints(2), local(1)), ints(1)}, {lambda(upTo(2, 24), local(1)), ints(1)}, {lambda(upTo(1, 24), local(25)), ints(25)},
		// What is set is named, too; what it is set to is looked at.
		{lambda(nil, set(1, a)), ints(1)}, {lambda(ints(1), set(2, local(1))), ints(2)}, {lambda(ints(1), set(1, local(2))), ints(2)}, {lambda(ints(5), set(2, set(3, local(1)))), ints(1, 2, 3)},
		// Each once, rising.
		{lambda(nil, call(local(3), local(1), local(2))), ints(1, 2, 3)}, {lambda(nil, call(local(3), local(1), local(3), set(1, local(3)))), ints(1, 3)}, {lambda(ints(5), begin(local(9), local(10), local(100), local(9))), ints(9, 10, 100)}, {lambda(nil, begin(set(2, a), local(1), local(2), set(1, a))), ints(1, 2)},
		// Wherever they stand.
		{lambda(nil, cond(local(1), local(2), local(3))), ints(1, 2, 3)}, {lambda(nil, cond(local(2), local(1))), ints(1, 2)}, {lambda(nil, begin(begin(begin(local(7))))), ints(7)}, {lambda(nil, define("a", local(7))), ints(7)}, {lambda(nil, assign("a", local(7))), ints(7)}, {lambda(nil, call(a, call(a, local(7)))), ints(7)},
		// Procedures within: their Params are bound in them, and nowhere else.
		{lambda(nil, lambda(ints(1), local(1))), nil}, {lambda(nil, lambda(ints(1), local(2))), ints(2)}, {lambda(ints(1), lambda(ints(2), call(local(1), local(2), local(3)))), ints(3)}, {lambda(nil, lambda(nil, lambda(nil, local(1)))), ints(1)}, {lambda(ints(2), lambda(ints(1), lambda(ints(3), call(local(4), local(3), local(2), local(1), local(0))))), ints(0, 4)},
		{lambda(nil, begin(lambda(ints(1), local(1)), local(1))), ints(1)}, {lambda(nil, begin(local(1), lambda(ints(1), local(1)))), ints(1)}, {lambda(nil, begin(lambda(ints(1), local(2)), lambda(ints(2), local(1)))), ints(1, 2)}, {lambda(ints(1), begin(lambda(ints(2), local(2)), lambda(ints(3), local(2)))), ints(2)}, {lambda(ints(9), call(lambda(ints(1), lambda(ints(2), local(1))), local(9), lambda(ints(3), lambda(nil, set(1, local(3)))))), ints(1)},
	} {
		has(t, c.t, c.want...)
	}
	for _, x := range nestings(local(7)) {
		has(t, lambda(ints(3), x), 7)
		has(t, lambda(ints(7), x))
		has(t, lambda(nil, lambda(ints(7), x), x), 7)
	}
}

// P15.2: a local has any number, and a name that is bound within is another one there.
func TestFreeNumbers(t *testing.T) {
	for _, n := range []int{0, 1, 2, -1, 32, 1 << 32, 1<<32 + 1, 1 << 40, minInt, maxInt} {
		has(t, lambda(nil, local(n)), n)
		has(t, lambda(nil, set(n, void())), n)
		has(t, lambda(ints(n), local(n)))
		has(t, lambda(ints(n+1), local(n)), n)
		has(t, lambda(ints(77), lambda(ints(n), local(n))))
		has(t, lambda(ints(77), call(local(n), lambda(ints(n), local(n)))), n)
	}
	has(t, lambda(nil, call(local(maxInt), local(0), local(minInt), local(-1), local(1))), minInt, -1, 0, 1, maxInt)
	// Bound twice: what is behind the inner one is bound by the outer one still.
	has(t, lambda(ints(1), begin(lambda(ints(1), local(1)), local(1))))
	has(t, lambda(ints(1), begin(lambda(ints(1), lambda(ints(1), local(1))), lambda(ints(2), local(1)), local(2))), 2)
	has(t, lambda(nil, lambda(ints(1), begin(lambda(ints(1), local(1)), local(1))), local(1)), 1)
	has(t, lambda(ints(1, 1), lambda(ints(2, 2), call(local(1), local(2), local(3)))), 3)
	has(t, lambda(ints(1, 1), local(1)))
}

// P15.2: nothing is free of what is no procedure.
func TestFreeOfNoProcedure(t *testing.T) {
	inner := lambda(ints(2), local(1))
	for _, x := range terms(api.Term{}, local(1), set(1, local(1)), global("a"), void(), quote(list(sym("a"))), assign("a", local(1)), define("a", local(1)), cond(local(1), local(1)), begin(local(1)), call(local(1)), begin(inner), call(inner, inner)) {
		has(t, x)
		x.N = 1
		has(t, x)
		x.Params = ints(5)
		has(t, x)
	}
	for _, kind := range []int{0, -1, 11, 13, 256 + 8, 1<<32 + 8, minInt, minInt + 8, maxInt} {
		has(t, api.Term{Kind: kind, Params: ints(2), Kids: terms(local(1))})
	}
	has(t, inner, 1)
}

// P15.2: terms that aren't right otherwise: only CLocal and CSet name locals, only CLambda binds them, in each of its Kids.
func TestFreeOfWrongTerms(t *testing.T) {
	for kind := -1; kind <= 12; kind++ {
		x := api.Term{Kind: kind, N: 5, Params: ints(1), Kids: terms(local(1))}
		empty := api.Term{Kind: kind, N: 5, Params: ints(1)}
		switch kind {
		case api.CLocal, api.CSet:
			has(t, lambda(nil, x), 1, 5)
			has(t, lambda(nil, empty), 5)
		case api.CLambda:
			has(t, lambda(nil, x))
			has(t, lambda(nil, empty))
			continue
		default:
			has(t, lambda(nil, x), 1)
			has(t, lambda(nil, empty))
		}
		has(t, lambda(ints(5), x), 1)
		has(t, lambda(ints(1, 5), x))
	}
	has(t, lambda(ints(1)))
	has(t, lambda(nil))
	has(t, lambda(ints(1), local(1), local(2), lambda(ints(2), local(2), local(3)), local(1)), 2, 3)
	has(t, api.Term{Kind: api.CLambda, N: 7, Params: ints(1), Name: "a", Data: num(1), Kids: terms(local(1), local(4))}, 4)
	has(t, lambda(upTo(1, 1000), call(local(1000), local(1001), local(500))), 1001)
	has(t, lambda(upTo(1, 1<<16), begin(local(1<<16), local(1), local(1<<16+1))), 1<<16+1)
	has(t, lambda(nil, cond(local(1)), begin(), call(times(40, local(3))...), quote(dot(sym("a")))), 1, 3)
}

// P15.2: at most 4000 parts.
func TestFreeOfManyParts(t *testing.T) {
	for n := 3990; n <= 4010; n++ {
		for i, x := range []api.Term{
			lambda(ints(1), begin(times(n-2, local(7))...)), lambda(ints(1), times(n-1, local(7))...), lambda(nil, begin(append(times(n-3, global("a")), local(7))...)), lambda(nil, begin(append(times(1000, lambda(ints(1), local(1))), times((n-2002)/2, set(7, void()))...)...)),
		} {
			parts := term.Parts(x)
			if i < 3 && parts != n {
				t.Fatalf("the term %d of %d has %d parts", i, n, parts)
			}
			if parts <= 4000 {
				has(t, x, 7)
			} else {
				has(t, x)
			}
		}
	}
	// Many locals, each another one.
	var all []api.Term
	for n := 3998; n > 0; n-- {
		all = append(all, local(n))
	}
	has(t, lambda(ints(4000), begin(all...)), upTo(1, 3998)...)
	has(t, lambda(upTo(1, 24), begin(all...)), upTo(25, 3998)...)
	has(t, lambda(upTo(3975, 3998), begin(all...)), upTo(1, 3974)...)
	deep := begin(all[:3800]...)
	for n := range 198 {
		deep = lambda(upTo(24*n+1, 24*n+24), deep)
	}
	has(t, deep)
	has(t, lambda(nil, deep.Kids[0].Kids[0], local(1)), append(ints(1), upTo(24*196+1, 3998)...)...)
}

// P15.2: at most 200 terms within one another.
func TestFreeOfDeepTerms(t *testing.T) {
	for k, nest := range []func(api.Term) api.Term{
		func(x api.Term) api.Term { return begin(x) }, func(x api.Term) api.Term { return begin(void(), x, void()) }, func(x api.Term) api.Term { return lambda(nil, x) }, func(x api.Term) api.Term { return lambda(ints(1, 2), x) }, func(x api.Term) api.Term { return set(7, x) },
		func(x api.Term) api.Term { return define("a", x) }, func(x api.Term) api.Term { return cond(void(), void(), x) }, func(x api.Term) api.Term { return api.Term{Kids: terms(x)} }, func(x api.Term) api.Term { return api.Term{Kind: api.CLocal, N: 7, Kids: terms(x)} },
	} {
		x := local(7)
		for n := 1; n <= 230; n++ {
			// The outermost procedure is one more.
			for i, y := range terms(lambda(nil, x), lambda(ints(1), local(7), x), lambda(ints(1), x, local(7))) {
				want := ints(7)
				if n+1 > 200 {
					want = nil
				}
				if got := scope.Free(y); !equalInts(got, want) {
					t.Fatalf("Free of %d within one another, in the way %d, %d = %v; want %v", n+1, k, i, got, want)
				}
			}
			x = nest(x)
		}
	}
	// The local in the innermost of 199 procedures, each of which may bind it.
	for binds := range 200 {
		x := local(7)
		for n := range 199 {
			params := ints(n + 100)
			if n == binds {
				params = ints(n+100, 7)
			}
			x = lambda(params, x)
		}
		if binds < 199 {
			has(t, x)
		} else {
			has(t, x, 7)
		}
	}
}
