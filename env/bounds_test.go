package env_test

import (
	"errors"
	"strconv"
	"testing"

	"spindle/api"
	"spindle/env"
)

// filled is as many places as there may be, within one another, each with a meaning of x; and how many they are.
func filled(t *testing.T) (*env.Table, int) {
	t.Helper()
	table := env.New()
	for n := range most + 2 {
		p, e := table.Extend(n, "x", local(n+1))
		if errors.Is(e, api.ErrLong) && p == 0 {
			return table, n
		}
		if p != n+1 || e != nil {
			t.Fatalf("Extend(%d, x) = %d, %v; want %d", n, p, e, n+1)
		}
	}
	t.Fatal("there is no end of places")
	return nil, 0
}

// P11.1: there are 2^16 places, and no more.
func TestMostPlaces(t *testing.T) {
	table, n := filled(t)
	// Whether the top is one of the 2^16 is not said in so many words.
	if n != most && n != most-1 {
		t.Errorf("there are %d places beside the top", n)
	}
	for range 3 {
		for _, at := range []int{0, 1, n} {
			if p, e := table.Extend(at, "y", local(1)); p != 0 || !errors.Is(e, api.ErrLong) {
				t.Errorf("Extend(%d, y) = %d, %v; want %v", at, p, e, api.ErrLong)
			}
		}
	}
	refuses(t, table, n+1, "x", api.ErrRange)
	refuses(t, table, n+1, "12", api.ErrRange)
	refuses(t, table, n, "12", api.ErrArg)
	refuses(t, table, n, "x 1", api.ErrArg)
	refusesMeaning(t, table, n, "x", api.Meaning{})
	refusesMeaning(t, table, n, "x", api.Meaning{Kind: 4})
}

// P11.1, P11.2: a table that is full of places is as good as another one for all else.
func TestFullOfPlaces(t *testing.T) {
	table, n := filled(t)
	top(t, table, "y", core(1))
	finds(t, table, n, "y", core(1))
	finds(t, table, 0, "x", api.Meaning{})
	for _, at := range []int{1, 2, 1 << 15, n - 1, n} {
		finds(t, table, at, "x", local(at))
		finds(t, table, 0, alias(t, table, "x", at), local(at))
	}
	same(t, table, n, "y", 0, alias(t, table, "y", n), true)
	same(t, table, n, "x", n-1, "x", false)
}

// P11.1: there are 2^16 aliases, and no more; one may come from the other, all the way.
func TestMostAliases(t *testing.T) {
	table := env.New()
	p := extend(t, table, 0, "x", local(1))
	name := "x"
	for n := 1; n <= most; n++ {
		a, e := table.Alias(name, p*(n%2))
		if a != "x "+strconv.Itoa(n) || e != nil {
			t.Fatalf("Alias(%q) = %q, %v; want x %d", name, a, e, n)
		}
		name = a
	}
	for range 3 {
		for _, of := range []string{"x", name, "y"} {
			if a, e := table.Alias(of, p); a != "" || !errors.Is(e, api.ErrLong) {
				t.Errorf("Alias(%q) = %q, %v; want %v", of, a, e, api.ErrLong)
			}
		}
	}
	refuses(t, table, 2, "x", api.ErrRange)
	refuses(t, table, 0, "x 65537", api.ErrArg)
	refuses(t, table, 0, "y 1", api.ErrArg)
	for _, a := range []string{"x 1", "x 2", "x 32768", name} {
		finds(t, table, 0, a, local(1))
		same(t, table, 0, a, p, "x", true)
		strips(t, table, a, "x")
	}
	q := extend(t, table, 0, name, macro(2))
	finds(t, table, q, name, macro(2))
	finds(t, table, q, "x 65535", local(1))
	top(t, table, "x", core(4))
	finds(t, table, q, "x", core(4))
}

// P11.1: there are as many symbols at the top as one likes.
func TestManySymbols(t *testing.T) {
	table := env.New()
	const many = 1<<16 + 9
	for n := range many {
		top(t, table, "s"+strconv.Itoa(n), macro(n))
	}
	for n := range many {
		finds(t, table, 0, "s"+strconv.Itoa(n), macro(n))
	}
}
