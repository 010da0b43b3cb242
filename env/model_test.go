package env_test

import (
	"errors"
	"maps"
	"strconv"
	"testing"

	"spindle/api"
	"spindle/env"
)

// dice are numbers that come the same way each time.
type dice uint64

func (d *dice) below(n int) int {
	*d = *d*6364136223846793005 + 1442695040888963407
	return int(uint64(*d) >> 33 % uint64(n))
}

// binder is the place that binds a name; at the top, the symbol too.
type binder struct {
	place  int
	symbol string
}

// model is a table whose places each know all names that are bound from there up to the top, and whose aliases know what binds them else.
type model struct {
	symbols map[string]int
	top     map[string]api.Meaning
	known   []map[string]int
	means   []api.Meaning
	comes   map[string]string
	made    map[string]binder
}

func newModel() *model {
	return &model{
		symbols: map[string]int{"a": 1, "b": 1, "...": 1, "a1": 1},
		top:     map[string]api.Meaning{},
		known:   []map[string]int{{}},
		means:   []api.Meaning{{}},
		comes:   map[string]string{},
		made:    map[string]binder{},
	}
}

// symbol is what a name comes from; no text, if it is none.
func (m *model) symbol(name string) string {
	if m.symbols[name] > 0 {
		return name
	}
	return m.comes[name]
}

// fault is why a name at a place is refused.
func (m *model) fault(at int, name string) error {
	if at < 0 || at >= len(m.known) {
		return api.ErrRange
	}
	if m.symbol(name) == "" {
		return api.ErrArg
	}
	return nil
}

func (m *model) binder(at int, name string) binder {
	if p, ok := m.known[at][name]; ok {
		return binder{place: p}
	}
	if b, ok := m.made[name]; ok {
		return b
	}
	return binder{symbol: name}
}

func (m *model) tops(name string, x api.Meaning) error {
	if m.symbols[name] == 0 || x.Kind < 0 || x.Kind > 3 {
		return api.ErrArg
	}
	if x.Kind == 0 {
		x.N = 0
	}
	m.top[name] = x
	return nil
}

func (m *model) extend(at int, name string, x api.Meaning) (int, error) {
	if e := m.fault(at, name); e != nil {
		return 0, e
	}
	if x.Kind < 1 || x.Kind > 3 {
		return 0, api.ErrArg
	}
	known := maps.Clone(m.known[at])
	known[name] = len(m.known)
	m.known = append(m.known, known)
	m.means = append(m.means, x)
	return len(m.known) - 1, nil
}

func (m *model) alias(name string, at int) (string, error) {
	if e := m.fault(at, name); e != nil {
		return "", e
	}
	a := m.symbol(name) + " " + strconv.Itoa(len(m.made)+1)
	m.comes[a], m.made[a] = m.symbol(name), m.binder(at, name)
	return a, nil
}

func (m *model) find(at int, name string) (api.Meaning, error) {
	if e := m.fault(at, name); e != nil {
		return api.Meaning{}, e
	}
	b := m.binder(at, name)
	if b.place == 0 {
		return m.top[b.symbol], nil
	}
	return m.means[b.place], nil
}

func (m *model) same(a int, x string, b int, y string) bool {
	return m.fault(a, x) == nil && m.fault(b, y) == nil && m.binder(a, x) == m.binder(b, y)
}

// pair is a table and its model, told alike.
type pair struct {
	*testing.T
	*dice
	table *env.Table
	model *model
	names []string // those that are asked for, some of which are none
}

func (p *pair) name() string { return p.names[p.below(len(p.names))] }

// place is one that there is, or, now and then, one beside them.
func (p *pair) place() int { return p.below(len(p.model.known)+1+p.below(2)) - p.below(8)/7 }

func (p *pair) meaning() api.Meaning {
	return api.Meaning{Kind: p.below(4) + p.below(9)/8, N: p.below(5) - 1}
}

// tell tells both of them one thing more.
func (p *pair) tell() {
	name, at, m := p.name(), p.place(), p.meaning()
	switch p.below(3) {
	case 0:
		if e, want := p.table.Top(name, m), p.model.tops(name, m); !errors.Is(e, want) {
			p.Fatalf("Top(%q, %v): %v; want %v", name, m, e, want)
		}
	case 1:
		n, e := p.table.Extend(at, name, m)
		want, fault := p.model.extend(at, name, m)
		if n != want || !errors.Is(e, fault) {
			p.Fatalf("Extend(%d, %q, %v) = %d, %v; want %d, %v", at, name, m, n, e, want, fault)
		}
	case 2:
		a, e := p.table.Alias(name, at)
		want, fault := p.model.alias(name, at)
		if a != want || !errors.Is(e, fault) {
			p.Fatalf("Alias(%q, %d) = %q, %v; want %q, %v", name, at, a, e, want, fault)
		}
		if fault == nil {
			p.names = append(p.names, want)
		}
	}
}

// ask holds the table against the model, at all places, of all names.
func (p *pair) ask() {
	for _, name := range p.names {
		if s, want := p.table.Strip(name), p.model.symbol(name); s != want {
			p.Fatalf("Strip(%q) = %q; want %q", name, s, want)
		}
		for at := -1; at <= len(p.model.known); at++ {
			m, e := p.table.Find(at, name)
			want, fault := p.model.find(at, name)
			if m != want || !errors.Is(e, fault) {
				p.Fatalf("Find(%d, %q) = %v, %v; want %v, %v", at, name, m, e, want, fault)
			}
			b, y := p.place(), p.name()
			if p.table.Same(at, name, b, y) != p.model.same(at, name, b, y) {
				p.Fatalf("Same(%d, %q, %d, %q) isn't %v", at, name, b, y, p.model.same(at, name, b, y))
			}
		}
	}
}

func newPair(t *testing.T, seed int) *pair {
	d := dice(seed)
	d.below(7)
	return &pair{T: t, dice: &d, table: env.New(), model: newModel(), names: []string{"a", "b", "...", "a1", "a 1", "b 2", "a 9999", "12", ""}}
}

// P11.1 to P11.4: tables that were told anything, held against the model.
func TestModel(t *testing.T) {
	for seed := range 300 {
		p := newPair(t, seed)
		for n := range 60 {
			p.tell()
			if n%12 == 11 {
				p.ask()
			}
		}
	}
}

// P11.4: an alias means what its name means where it was made, as long as nobody binds the alias; and what it is bound to shows in no other name.
func TestConsequences(t *testing.T) {
	for seed := range 200 {
		p := newPair(t, seed)
		for range 40 {
			p.tell()
		}
		name, at := p.name(), p.place()
		means, e := p.table.Find(at, name)
		if e != nil {
			continue
		}
		a := alias(t, p.table, name, at)
		for b := range p.model.known {
			finds(t, p.table, b, a, means)
			same(t, p.table, b, a, at, name, true)
		}
		for b := range p.model.known {
			inner := extend(t, p.table, b, a, local(1000+b))
			finds(t, p.table, inner, a, local(1000+b))
			same(t, p.table, inner, a, at, name, false)
			for _, other := range p.names {
				if p.model.symbol(other) != "" {
					same(t, p.table, inner, other, b, other, true)
				}
			}
		}
	}
}
