package compile_test

import (
	"slices"
	"strconv"
	"strings"
	"testing"

	"spindle/api"
	"spindle/compile"
)

const mostLogged = 300

// stopped is what a run panics with that has logged enough.
type stopped struct{}

// journal is what a run did: what was called, with how many frames open, and what was set.
type journal struct {
	lines   []string
	globals map[string]any
}

// log notes one thing that was done.
func (j *journal) log(what string, parts ...any) {
	for _, part := range parts {
		what += " " + valueText(part)
	}
	j.lines = append(j.lines, what)
	if len(j.lines) == mostLogged {
		panic(stopped{})
	}
}

// global is what a global is set to; as long as that is nothing, its name.
func (j *journal) global(name string) any {
	if v := j.globals[name]; v != nil {
		return v
	}
	return name
}

// result is what comes of a call of what is no procedure, or takes others: each time another value.
func (j *journal) result() any { return "r" + strconv.Itoa(len(j.lines)) }

// taker says how a procedure takes its arguments: twice how many, and one, if the last one takes the rest.
type taker int

// values are what a call's arguments are in the procedure; it tells whether it takes as many.
func (b taker) values(args []any) ([]any, bool) {
	n := int(b / 2)
	if b%2 == 0 {
		return slices.Clone(args), len(args) == n
	}
	if len(args) < n-1 {
		return nil, false
	}
	return append(slices.Clone(args[:n-1]), slices.Clone(args[n-1:])), true
}

// procedure is a value in both kinds of run: the one that goes by terms has the term, the other one the place.
type procedure struct {
	taker
	term  api.Term
	place int
	env   *rib
}

// rib is what a call's arguments are set to; params are none where code is run.
type rib struct {
	params []int
	values []any
	around *rib
}

func valueText(v any) string {
	switch v := v.(type) {
	case string:
		return v
	case *procedure:
		return "procedure" + strconv.Itoa(int(v.taker))
	case []any:
		var all []string
		for _, one := range v {
			all = append(all, valueText(one))
		}
		return "(" + strings.Join(all, " ") + ")"
	}
	return "?"
}

// isFalse tells of half the results, and of one datum.
func isFalse(v any) bool {
	s, ok := v.(string)
	return ok && (s == "#f" || s[0] == 'r' && (s[len(s)-1]-'0')%2 == 0)
}

func datumText(d api.Datum) string {
	switch d.Kind {
	case 0:
		return []string{"#void", "#undef"}[d.N]
	case api.DBool:
		return "#f"
	case api.DInt:
		return strconv.Itoa(d.N)
	}
	return "datum" + strconv.Itoa(d.Kind)
}

// byTerms runs a term as it stands: last tells whether nothing else is to be done, open how many frames wait.
func (j *journal) byTerms(t api.Term, env *rib, last bool, open int) any {
	switch t.Kind {
	case api.CQuote:
		return datumText(t.Data)
	case api.CLocal:
		return *env.find(t.N)
	case api.CGlobal:
		return j.global(t.Name)
	case api.CSet:
		v := j.byTerms(t.Kids[0], env, false, open)
		*env.find(t.N) = v
		j.log("set", v)
	case api.CAssign, api.CDefine:
		v := j.byTerms(t.Kids[0], env, false, open)
		j.globals[t.Name] = v
		j.log([]string{"assign", "define"}[t.Kind-api.CAssign], t.Name, v)
	case api.CIf:
		if !isFalse(j.byTerms(t.Kids[0], env, false, open)) {
			return j.byTerms(t.Kids[1], env, last, open)
		}
		if len(t.Kids) == 3 {
			return j.byTerms(t.Kids[2], env, last, open)
		}
	case api.CLambda:
		return &procedure{taker: taker(2*len(t.Params) + t.N), term: t, env: env}
	case api.CBegin:
		end := len(t.Kids) - 1
		for _, kid := range t.Kids[:end] {
			j.byTerms(kid, env, false, open)
		}
		return j.byTerms(t.Kids[end], env, last, open)
	case api.CCall:
		return j.callByTerms(t, env, last, open)
	}
	return "#void"
}

// callByTerms runs a CCall.
func (j *journal) callByTerms(t api.Term, env *rib, last bool, open int) any {
	if !last {
		open++
	}
	var all []any
	for _, kid := range t.Kids {
		all = append(all, j.byTerms(kid, env, false, open))
	}
	j.log("call", strconv.Itoa(open), all)
	if p, ok := all[0].(*procedure); ok {
		if values, ok := p.values(all[1:]); ok {
			return j.byTerms(p.term.Kids[0], &rib{p.term.Params, values, p.env}, true, open)
		}
	}
	return j.result()
}

// find is where a local's value is.
func (r *rib) find(n int) *any {
	index := slices.Index(r.params, n)
	if index < 0 {
		return r.around.find(n)
	}
	return &r.values[index]
}

// up is the rib so many ribs up.
func (r *rib) up(n int) *rib {
	for range n {
		r = r.around
	}
	return r
}

// waiting is a frame: what goes on when a value comes back.
type waiting struct {
	place  int
	env    *rib
	pushed []any
}

// byCode runs code from its first instruction.
func (j *journal) byCode(l []api.Instr) any {
	var now waiting
	var frames []waiting
	var v any
	for {
		i := l[now.place]
		now.place++
		switch i.Op {
		case api.IConst:
			v = datumText(i.Data)
		case api.ILocal:
			v = now.env.up(i.A).values[i.B]
		case api.IGlobal:
			v = j.global(i.Name)
		case api.ISet:
			now.env.up(i.A).values[i.B] = v
			j.log("set", v)
			v = "#void"
		case api.IAssign, api.IDefine:
			j.globals[i.Name] = v
			j.log([]string{"assign", "define"}[i.Op-api.IAssign], i.Name, v)
			v = "#void"
		case api.IUnless:
			if !isFalse(v) {
				break
			}
			fallthrough
		case api.IJump:
			now.place = i.A
		case api.IClosure:
			v = &procedure{taker: taker(i.B), place: i.A, env: now.env}
		case api.IFrame:
			frames = append(frames, waiting{i.A, now.env, now.pushed})
			now.pushed = nil
		case api.IPush:
			now.pushed = append(slices.Clone(now.pushed), v)
		case api.ICall, api.ITail:
			j.log("call", strconv.Itoa(len(frames)), now.pushed)
			if p, ok := now.pushed[0].(*procedure); ok {
				if values, ok := p.values(now.pushed[1:]); ok {
					now = waiting{place: p.place, env: &rib{values: values, around: p.env}}
					break
				}
			}
			v = j.result()
			fallthrough
		case api.IReturn:
			if len(frames) == 0 {
				return v
			}
			now = frames[len(frames)-1]
			frames = frames[:len(frames)-1]
		}
	}
}

// done is all that a run did, and what came of it; stopped runs have no value.
func done(run func(j *journal) any) (lines []string, value string) {
	j := &journal{globals: map[string]any{}}
	defer func() {
		if r := recover(); r != nil {
			if _, ok := r.(stopped); !ok {
				panic(r)
			}
			lines, value = j.lines, "stopped"
		}
	}()
	v := run(j)
	return j.lines, valueText(v)
}

// runsAlike holds that a program's code does what the program says, with as many frames open; it tells what that was, and what came of it.
func runsAlike(t *testing.T, x api.Term) (lines []string, value string) {
	t.Helper()
	l, e := compile.Compile(x)
	if e != nil {
		t.Fatalf("Compile of %s: %v", shown(x), e)
	}
	want, wanted := done(func(j *journal) any { return j.byTerms(x, nil, true, 0) })
	got, value := done(func(j *journal) any { return j.byCode(l) })
	if !slices.Equal(got, want) || value != wanted {
		t.Fatalf("the code of %s did %.300q and came to %s; want %.300q and %s", shown(x), got, value, want, wanted)
	}
	return got, value
}

// P17.1, P17.2: the code of scattered programs does what they say, and its calls that are last leave no frame open.
func TestScatteredRuns(t *testing.T) {
	things, entered := 0, 0
	for seed := range uint64(8000) {
		lines, _ := runsAlike(t, scattered(1000000+seed, int(seed%9), inOrder))
		things += len(lines)
		for _, line := range lines {
			if strings.HasPrefix(line, "call ") && strings.Contains(line, " (procedure") {
				entered++
			}
		}
	}
	if things < 30000 || entered < 2000 {
		t.Errorf("%d things were done, %d calls were of procedures", things, entered)
	}
}

// P17.2: calls that are last leave no frame open, however many there are.
func TestLastCallsLeaveNothing(t *testing.T) {
	f, a := global("f"), global("a")
	loop := call(f, local(1))
	for _, body := range terms(loop, begin(a, loop), cond(call(a), loop, loop), begin(a, cond(a, begin(loop))), call(lambda(nil, loop)), call(lambda(ints(2), cond(local(2), local(2), loop)), quote(api.Datum{Kind: api.DBool}))) {
		lines, value := runsAlike(t, begin(define("f", lambda(ints(1), body)), call(f, a)))
		last := lines[len(lines)-2:]
		if value != "stopped" || !strings.HasPrefix(last[0], "call 0 ") && !strings.HasPrefix(last[1], "call 0 ") {
			t.Errorf("%s came to %s, at last %q", shown(body), value, last)
		}
	}
	// One that isn't last leaves one open each time.
	lines, value := runsAlike(t, begin(define("f", lambda(ints(1), begin(loop, a))), call(f, a)))
	if last := lines[len(lines)-1]; value != "stopped" || !strings.HasPrefix(last, "call "+strconv.Itoa(mostLogged-2)+" ") {
		t.Errorf("it came to %s, at last %q", value, last)
	}
}
