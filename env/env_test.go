package env_test

import (
	"errors"
	"strconv"
	"strings"
	"testing"

	"spindle/api"
	"spindle/env"
	"spindle/lex"
)

const (
	minInt = -1 << 63
	maxInt = 1<<63 - 1
	most   = 1 << 16
)

func local(n int) api.Meaning { return api.Meaning{Kind: api.MLocal, N: n} }
func macro(n int) api.Meaning { return api.Meaning{Kind: api.MMacro, N: n} }
func core(n int) api.Meaning  { return api.Meaning{Kind: api.MCore, N: n} }

// top says what a symbol means at the top.
func top(t *testing.T, table *env.Table, name string, m api.Meaning) {
	t.Helper()
	if e := table.Top(name, m); e != nil {
		t.Errorf("Top(%q, %v): %v", name, m, e)
	}
}

// extend is a place that there must be.
func extend(t *testing.T, table *env.Table, at int, name string, m api.Meaning) int {
	t.Helper()
	p, e := table.Extend(at, name, m)
	if e != nil {
		t.Errorf("Extend(%d, %q, %v): %v", at, name, m, e)
	}
	return p
}

// alias is a new name that there must be.
func alias(t *testing.T, table *env.Table, name string, at int) string {
	t.Helper()
	a, e := table.Alias(name, at)
	if e != nil {
		t.Errorf("Alias(%q, %d): %v", name, at, e)
	}
	return a
}

// finds holds what a name means at a place.
func finds(t *testing.T, table *env.Table, at int, name string, want api.Meaning) {
	t.Helper()
	if m, e := table.Find(at, name); m != want || e != nil {
		t.Errorf("Find(%d, %q) = %v, %v; want %v", at, name, m, e, want)
	}
}

// same holds whether two names mean the same, asked from both sides.
func same(t *testing.T, table *env.Table, a int, x string, b int, y string, want bool) {
	t.Helper()
	if table.Same(a, x, b, y) != want || table.Same(b, y, a, x) != want {
		t.Errorf("Same(%d, %q, %d, %q) isn't %v", a, x, b, y, want)
	}
}

// strips holds the symbol that a name comes from.
func strips(t *testing.T, table *env.Table, name, want string) {
	t.Helper()
	if s := table.Strip(name); s != want {
		t.Errorf("Strip(%q) = %q; want %q", name, s, want)
	}
}

// refuses holds that all calls of a name at a place refuse it, and answer nothing else.
func refuses(t *testing.T, table *env.Table, at int, name string, want api.Kind) {
	t.Helper()
	if p, e := table.Extend(at, name, local(1)); p != 0 || !errors.Is(e, want) {
		t.Errorf("Extend(%d, %q) = %d, %v; want %v", at, name, p, e, want)
	}
	if a, e := table.Alias(name, at); a != "" || !errors.Is(e, want) {
		t.Errorf("Alias(%q, %d) = %q, %v; want %v", name, at, a, e, want)
	}
	if m, e := table.Find(at, name); m != (api.Meaning{}) || !errors.Is(e, want) {
		t.Errorf("Find(%d, %q) = %v, %v; want %v", at, name, m, e, want)
	}
	same(t, table, at, name, at, name, false)
	same(t, table, at, name, 0, "x", false)
}

// refusesTop holds that the top refuses a meaning of a name.
func refusesTop(t *testing.T, table *env.Table, name string, m api.Meaning) {
	t.Helper()
	if e := table.Top(name, m); !errors.Is(e, api.ErrArg) {
		t.Errorf("Top(%q, %v): %v; want %v", name, m, e, api.ErrArg)
	}
}

// refusesMeaning holds that a place refuses a meaning.
func refusesMeaning(t *testing.T, table *env.Table, at int, name string, m api.Meaning) {
	t.Helper()
	if p, e := table.Extend(at, name, m); p != 0 || !errors.Is(e, api.ErrArg) {
		t.Errorf("Extend(%d, %q, %v) = %d, %v; want %v", at, name, m, p, e, api.ErrArg)
	}
}

// longName is a symbol's name of 60 bytes, the most that there may be.
func longName() string { return strings.Repeat("n", 60) }

// noNames are texts that are no names of any table: no symbol's, and no alias'.
func noNames() []string {
	return []string{"", " ", "a b", "x ", " x", " 1", "1", "-12", "+7", "1 1", "12 1", ".", ". 1", "(", "x(", "x'", "x,y", "#t", "x#", "`x", "\"x\"", "x;", "x\n", "x\t1", "x\x00", "x\x7f", "\xff", "é", longName() + "n", longName() + "n 1", strings.Repeat("x", 1<<16)}
}

// noAliases are texts much like the alias "x 1", when it is the only one.
func noAliases() []string {
	return []string{"x 2", "x 0", "x -1", "x +1", "x 01", "x 1 ", "x  1", " x 1", "x 1 1", "x 10", "x 11", "x 1.", "x\t1", "x\n1", "x-1", "X 1", "y 1", "xx 1", " 1", "1", "x ", "x", "x 18446744073709551617"}
}

// The chapter's examples.
func TestExamples(t *testing.T) {
	table := env.New()
	if p := extend(t, table, 0, "x", local(1)); p != 1 {
		t.Errorf("the first place is %d", p)
	}
	if a := alias(t, table, "x", 1); a != "x 1" {
		t.Errorf("the first alias is %q", a)
	}
	if p := extend(t, table, 0, "x", local(2)); p != 2 {
		t.Errorf("the second place is %d", p)
	}
	finds(t, table, 2, "x 1", local(1))
	finds(t, table, 2, "x", local(2))
	finds(t, table, 0, "x", api.Meaning{})
	strips(t, table, "x 1", "x")
}

// P11.1: a new table has no aliases and no places, and nothing means anything.
func TestNew(t *testing.T) {
	table := env.New()
	if table == nil {
		t.Fatal("no table")
	}
	for _, name := range []string{"x", "if", "quote", "lambda", "...", "_", "+", ".1", "..", longName()} {
		finds(t, table, 0, name, api.Meaning{})
		strips(t, table, name, name)
		same(t, table, 0, name, 0, name, true)
	}
	for _, name := range noAliases() {
		if !lex.Symbol(name) {
			refuses(t, table, 0, name, api.ErrArg)
		}
	}
	for _, at := range []int{-1, 1, 2, most, maxInt, minInt} {
		refuses(t, table, at, "x", api.ErrRange)
	}
}

// P11.1: tables know nothing of one another.
func TestTablesApart(t *testing.T) {
	one, other := env.New(), env.New()
	top(t, one, "x", core(1))
	extend(t, one, 0, "y", local(1))
	alias(t, one, "x", 0)
	finds(t, other, 0, "x", api.Meaning{})
	refuses(t, other, 1, "y", api.ErrRange)
	refuses(t, other, 0, "x 1", api.ErrArg)
	strips(t, other, "x 1", "")
	if p := extend(t, other, 0, "z", local(2)); p != 1 {
		t.Errorf("the other table's first place is %d", p)
	}
	if a := alias(t, other, "z", 0); a != "z 1" {
		t.Errorf("the other table's first alias is %q", a)
	}
	finds(t, one, 1, "y", local(1))
	refuses(t, one, 0, "z 1", api.ErrArg)
}

// P11.1: what is said last of a symbol at the top holds there from then on, of whatever kind.
func TestTop(t *testing.T) {
	table := env.New()
	for _, name := range []string{"x", "if", "...", ".1", longName()} {
		for _, n := range []int{0, 1, -1, 7, 1 << 40, maxInt, minInt} {
			for _, m := range []api.Meaning{local(n), macro(n), core(n)} {
				top(t, table, name, m)
				finds(t, table, 0, name, m)
			}
			top(t, table, name, api.Meaning{N: n})
			finds(t, table, 0, name, api.Meaning{})
			top(t, table, name, api.Meaning{N: n})
			finds(t, table, 0, name, api.Meaning{})
		}
	}
	top(t, table, "x", core(1))
	top(t, table, "y", macro(2))
	finds(t, table, 0, "x", core(1))
	finds(t, table, 0, "y", macro(2))
	top(t, table, "y", api.Meaning{})
	finds(t, table, 0, "x", core(1))
	finds(t, table, 0, "y", api.Meaning{})
}

// P11.1: what the top says shows at all places, and behind all aliases that it binds, also where it is said late.
func TestTopIsSeen(t *testing.T) {
	table := env.New()
	inner := extend(t, table, extend(t, table, 0, "y", local(1)), "z", local(2))
	shown := alias(t, table, "x", inner)
	hidden := alias(t, table, "y", inner)
	again := alias(t, table, shown, 0)
	for _, m := range []api.Meaning{core(1), macro(5), local(9), {}} {
		top(t, table, "x", m)
		top(t, table, "y", m)
		for _, at := range []int{0, inner} {
			finds(t, table, at, "x", m)
			finds(t, table, at, shown, m)
			finds(t, table, at, again, m)
			finds(t, table, at, hidden, local(1))
		}
		finds(t, table, inner, "y", local(1))
		finds(t, table, 0, "y", m)
	}
}

// P11.1: the top takes symbols' names alone, and kinds of meanings; else all stays as it was.
func TestTopRefuses(t *testing.T) {
	table := env.New()
	top(t, table, "x", core(3))
	made := alias(t, table, "x", 0)
	for _, name := range append(noNames(), made, "x 2") {
		refusesTop(t, table, name, core(1))
		refusesTop(t, table, name, api.Meaning{})
	}
	for _, kind := range []int{-1, 4, 5, 1 << 32, minInt, maxInt} {
		refusesTop(t, table, "x", api.Meaning{Kind: kind, N: 1})
		refusesTop(t, table, "y", api.Meaning{Kind: kind})
	}
	finds(t, table, 0, "x", core(3))
	finds(t, table, 0, made, core(3))
	finds(t, table, 0, "y", api.Meaning{})
}

// P11.1: just what layer 7 takes for a symbol's name is one here, byte by byte.
func TestSymbols(t *testing.T) {
	table := env.New()
	for c := range 256 {
		for _, name := range []string{string([]byte{byte(c)}), string([]byte{'x', byte(c)}), string([]byte{byte(c), '1'}), string([]byte{'x', byte(c), '1'})} {
			if !lex.Symbol(name) {
				refusesTop(t, table, name, core(c))
				refuses(t, table, 0, name, api.ErrArg)
				strips(t, table, name, "")
				continue
			}
			top(t, table, name, core(c))
			finds(t, table, 0, name, core(c))
			finds(t, table, extend(t, table, 0, name, local(c)), name, local(c))
			strips(t, table, name, name)
			strips(t, table, alias(t, table, name, 0), name)
		}
	}
}

// P11.1: places are numbered as they come, whichever they lie within, and each gives one name a meaning.
func TestExtend(t *testing.T) {
	table := env.New()
	within := []int{0, 0, 1, 1, 3, 2, 0, 5, 8}
	for i, at := range within {
		if p := extend(t, table, at, "v"+strconv.Itoa(i+1), local(100+i+1)); p != i+1 {
			t.Errorf("the place numbered %d is %d", i+1, p)
		}
	}
	around := map[int][]int{1: {1}, 2: {2}, 3: {3, 1}, 4: {4, 1}, 5: {5, 3, 1}, 6: {6, 2}, 7: {7}, 8: {8, 5, 3, 1}, 9: {9, 8, 5, 3, 1}}
	for p := range len(within) + 1 {
		want := map[int]api.Meaning{}
		for _, q := range around[p] {
			want[q] = local(100 + q)
		}
		for q := 1; q <= len(within); q++ {
			finds(t, table, p, "v"+strconv.Itoa(q), want[q])
		}
	}
}

// P11.1: the meanings that places take are kept whole.
func TestExtendMeanings(t *testing.T) {
	table := env.New()
	top(t, table, "x", core(77))
	for _, n := range []int{0, 1, -1, 1 << 40, maxInt, minInt} {
		for _, m := range []api.Meaning{local(n), macro(n), core(n)} {
			finds(t, table, extend(t, table, 0, "x", m), "x", m)
		}
	}
	finds(t, table, 0, "x", core(77))
}

// P11.1, P11.2: the innermost place stands ahead of those around it, also where it says the same name again.
func TestInnermostFirst(t *testing.T) {
	table := env.New()
	top(t, table, "x", core(5))
	at := 0
	for n := 1; n <= 20; n++ {
		at = extend(t, table, at, "x", local(n))
		finds(t, table, at, "x", local(n))
		finds(t, table, extend(t, table, at, "y", macro(n)), "x", local(n))
	}
	for n, m := range []api.Meaning{core(5), local(1), local(2)} {
		finds(t, table, 2*n-min(n, 1), "x", m)
	}
}

// P11.1: aliases are numbered as they come, whatever symbols they come from.
func TestAlias(t *testing.T) {
	table := env.New()
	p := extend(t, table, 0, "x", local(1))
	for _, c := range []struct {
		name string
		at   int
		want string
	}{
		{"x", 0, "x 1"},
		{"x", 0, "x 2"},
		{"y", p, "y 3"},
		{"x 1", 0, "x 4"},
		{"x 4", p, "x 5"},
		{"y 3", 0, "y 6"},
		{"...", 0, "... 7"},
		{"x1", 0, "x1 8"},
		{".1", 0, ".1 9"},
		{longName(), p, longName() + " 10"},
		{longName() + " 10", 0, longName() + " 11"},
		{"x 1", 0, "x 12"},
	} {
		if a := alias(t, table, c.name, c.at); a != c.want {
			t.Errorf("Alias(%q, %d) = %q; want %q", c.name, c.at, a, c.want)
		}
		strips(t, table, c.want, c.want[:strings.Index(c.want, " ")])
	}
}

// P11.1, P11.2: what is no place is refused ahead of all else, by each call.
func TestNoPlace(t *testing.T) {
	table := env.New()
	top(t, table, "x", core(1))
	made := alias(t, table, "x", extend(t, table, extend(t, table, 0, "x", local(1)), "y", local(2)))
	for _, at := range []int{-1, -2, 3, 4, most, most + 1, 1 << 31, 1 << 32, -1 << 32, minInt, minInt + 1, maxInt, maxInt - 1} {
		for _, name := range append(noNames(), "x", "y", made, "x 2") {
			refuses(t, table, at, name, api.ErrRange)
		}
		if _, e := table.Extend(at, "x", api.Meaning{}); !errors.Is(e, api.ErrRange) {
			t.Errorf("Extend(%d) of no meaning: %v", at, e)
		}
	}
	finds(t, table, 2, made, local(1))
	finds(t, table, 0, "x", core(1))
}

// P11.1, P11.2: what is no name is refused at all places, by each call.
func TestNoName(t *testing.T) {
	table := env.New()
	p := extend(t, table, 0, "x", local(1))
	made := alias(t, table, "x", p)
	var wrong []string
	for _, name := range append(noNames(), noAliases()...) {
		if !lex.Symbol(name) {
			wrong = append(wrong, name)
		}
	}
	for _, name := range wrong {
		refuses(t, table, 0, name, api.ErrArg)
		refuses(t, table, p, name, api.ErrArg)
		same(t, table, 0, name, 0, made, false)
		strips(t, table, name, "")
	}
	if p := extend(t, table, 0, made, local(2)); p != 2 {
		t.Errorf("behind refusals the second place is %d", p)
	}
	if a := alias(t, table, "x", 0); a != "x 2" {
		t.Errorf("behind refusals the second alias is %q", a)
	}
}

// P11.1: a place takes a meaning that is one; nothing is none.
func TestNoMeaning(t *testing.T) {
	table := env.New()
	made := alias(t, table, "x", 0)
	for _, kind := range []int{0, -1, 4, 5, 1 << 32, minInt, maxInt} {
		for _, n := range []int{0, 1, -1} {
			refusesMeaning(t, table, 0, "x", api.Meaning{Kind: kind, N: n})
			refusesMeaning(t, table, 0, made, api.Meaning{Kind: kind, N: n})
		}
	}
	refuses(t, table, 1, "x", api.ErrRange)
	if p := extend(t, table, 0, "x", local(1)); p != 1 {
		t.Errorf("behind refusals the first place is %d", p)
	}
}

// P11.2: an alias that nobody binds is looked up where it was made, not where it is asked for.
func TestAliasIsLookedUpWhereItWasMade(t *testing.T) {
	table := env.New()
	top(t, table, "x", core(9))
	p := extend(t, table, 0, "x", local(1))
	q := extend(t, table, p, "x", local(2))
	r := extend(t, table, 0, "x", local(3))
	for _, c := range []struct {
		at   int
		want api.Meaning
	}{{0, core(9)}, {p, local(1)}, {q, local(2)}, {r, local(3)}} {
		a := alias(t, table, "x", c.at)
		b := alias(t, table, a, r)
		for _, at := range []int{0, p, q, r} {
			finds(t, table, at, a, c.want)
			finds(t, table, at, b, c.want)
			same(t, table, at, a, c.at, "x", true)
			same(t, table, at, b, c.at, "x", true)
		}
	}
}

// P11.2, P11.4: what an alias is bound to is bound to it alone.
func TestBoundAlias(t *testing.T) {
	table := env.New()
	p := extend(t, table, 0, "x", local(1))
	a := alias(t, table, "x", p)
	b := alias(t, table, "x", p)
	early := alias(t, table, a, p)
	q := extend(t, table, p, a, local(2))
	late := alias(t, table, a, q)
	r := extend(t, table, q, "x", local(3))
	for _, c := range []struct {
		name             string
		top, atP, atQ, R api.Meaning
	}{
		{"x", api.Meaning{}, local(1), local(1), local(3)},
		{a, local(1), local(1), local(2), local(2)},
		{b, local(1), local(1), local(1), local(1)},
		{early, local(1), local(1), local(1), local(1)},
		{late, local(2), local(2), local(2), local(2)},
	} {
		finds(t, table, 0, c.name, c.top)
		finds(t, table, p, c.name, c.atP)
		finds(t, table, q, c.name, c.atQ)
		finds(t, table, r, c.name, c.R)
	}
	same(t, table, q, a, 0, late, true)
	same(t, table, q, a, 0, a, false)
	same(t, table, 0, a, 0, b, true)
	same(t, table, q, a, q, b, false)
	same(t, table, q, early, q, a, false)
}

// P11.2: names are the same by the place that binds them, not by what they mean there.
func TestSame(t *testing.T) {
	table := env.New()
	top(t, table, "x", core(1))
	top(t, table, "y", core(1))
	p := extend(t, table, 0, "x", core(1))
	q := extend(t, table, 0, "x", core(1))
	inner := extend(t, table, p, "y", core(1))
	same(t, table, 0, "x", 0, "x", true)
	same(t, table, 0, "x", 0, "y", false)
	same(t, table, p, "x", 0, "x", false)
	same(t, table, p, "x", q, "x", false)
	same(t, table, p, "x", p, "x", true)
	same(t, table, p, "x", inner, "x", true)
	same(t, table, inner, "x", inner, "y", false)
	same(t, table, p, "y", q, "y", true)
	same(t, table, p, "y", inner, "y", false)
	same(t, table, p, "z", inner, "z", true)
	same(t, table, p, "z", inner, "w", false)
	other, free := alias(t, table, "x", q), alias(t, table, "z", inner)
	same(t, table, p, other, q, "x", true)
	same(t, table, p, other, p, "x", false)
	same(t, table, p, other, 0, "x", false)
	same(t, table, p, free, 0, "z", true)
	same(t, table, p, free, 0, "x", false)
	same(t, table, p, free, q, alias(t, table, "z", 0), true)
	top(t, table, "z", macro(3))
	top(t, table, "w", macro(3))
	same(t, table, p, free, 0, "z", true)
	same(t, table, p, free, 0, "w", false)
}

// P11.2: both sides of Same must be places and names.
func TestSameRefuses(t *testing.T) {
	table := env.New()
	p := extend(t, table, 0, "x", local(1))
	alias(t, table, "x", p)
	for _, at := range []int{-1, 2, minInt, maxInt} {
		same(t, table, at, "x", p, "x", false)
		same(t, table, at, "x", at, "x", false)
	}
	for _, name := range []string{"", "x 2", "y 1", "12", "x "} {
		same(t, table, p, name, p, "x", false)
		same(t, table, p, name, p, name, false)
		same(t, table, 0, name, 0, name, false)
	}
}

// P11.3: calls of no table.
func TestNil(t *testing.T) {
	var none *env.Table
	for _, name := range []string{"x", "x 1", "", "12"} {
		for _, at := range []int{0, 1, -1, maxInt} {
			refuses(t, none, at, name, api.ErrNil)
		}
		for _, kind := range []int{0, 1, 3, 4, -1} {
			if e := none.Top(name, api.Meaning{Kind: kind}); !errors.Is(e, api.ErrNil) {
				t.Errorf("Top(%q) of the kind %d: %v; want %v", name, kind, e, api.ErrNil)
			}
			if p, e := none.Extend(0, name, api.Meaning{Kind: kind}); p != 0 || !errors.Is(e, api.ErrNil) {
				t.Errorf("Extend(0, %q) of the kind %d: %d, %v; want %v", name, kind, p, e, api.ErrNil)
			}
		}
		strips(t, none, name, "")
	}
}

// No call panics, of a table that New didn't make either.
func TestZeroTable(t *testing.T) {
	for _, do := range []func(*env.Table){
		func(x *env.Table) { _ = x.Top("x", core(1)) },
		func(x *env.Table) { _ = x.Top("x", api.Meaning{}) },
		func(x *env.Table) { _, _ = x.Extend(0, "x", local(1)) },
		func(x *env.Table) { _, _ = x.Alias("x", 0) },
		func(x *env.Table) { _, _ = x.Find(0, "x 1") },
		func(x *env.Table) { _ = x.Same(0, "x", 1, "x 1") },
		func(x *env.Table) { _ = x.Strip("x 1") },
	} {
		do(&env.Table{})
	}
}
