package match_test

import (
	"errors"
	"slices"
	"strings"
	"testing"

	"spindle/api"
	"spindle/env"
	"spindle/match"
	"spindle/read"
	"spindle/show"
)

const (
	minInt = -1 << 63
	maxInt = 1<<63 - 1
	dots   = "..."
)

func sym(s string) api.Datum            { return api.Datum{Kind: api.DSym, Text: s} }
func num(n int) api.Datum               { return api.Datum{Kind: api.DInt, N: n} }
func list(items ...api.Datum) api.Datum { return api.Datum{Kind: api.DList, Items: items} }
func dot(items ...api.Datum) api.Datum  { return api.Datum{Kind: api.DDot, Items: items} }
func vec(items ...api.Datum) api.Datum  { return api.Datum{Kind: api.DVec, Items: items} }

// data are those of a text, in which a ~ stands for the blank of an alias.
func data(text string) []api.Datum {
	all, e := read.All(text)
	if e != nil {
		panic(text + ": " + e.Error())
	}
	for i, d := range all {
		all[i] = renamed(d, "~", " ")
	}
	return all
}

// datum is the only one of a text.
func datum(text string) api.Datum {
	all := data(text)
	if len(all) != 1 {
		panic(text)
	}
	return all[0]
}

// renamed is d with other texts of names, in new memory.
func renamed(d api.Datum, from, to string) api.Datum {
	if d.Kind == api.DSym {
		d.Text = strings.ReplaceAll(d.Text, from, to)
	}
	items := d.Items
	d.Items = nil
	for _, item := range items {
		d.Items = append(d.Items, renamed(item, from, to))
	}
	return d
}

// namesOf are the names of a text, a ~ likewise.
func namesOf(text string) []string {
	names := strings.Fields(text)
	for i, name := range names {
		names[i] = strings.ReplaceAll(name, "~", " ")
	}
	return names
}

// shown is a datum's text, a ~ likewise.
func shown(d api.Datum) string {
	s, e := show.Write(renamed(d, " ", "~"))
	if e != nil {
		return "?"
	}
	return s
}

// said is what a variable stands for, as a text; kids stand within brackets.
func said(b api.Bound) string {
	if b.Depth == 0 {
		return shown(b.D)
	}
	var kids []string
	for _, kid := range b.Kids {
		kids = append(kids, said(kid))
	}
	return "[" + strings.Join(kids, " ") + "]"
}

// allSaid is that of all of them, each with its name ahead.
func allSaid(bounds []api.Bound) string {
	var all []string
	for _, b := range bounds {
		all = append(all, strings.ReplaceAll(b.Name, " ", "~")+"="+said(b))
	}
	return strings.Join(all, " ")
}

// allVars are a pattern's variables as a text, each with its stars behind.
func allVars(vars []api.Pair) string {
	var all []string
	for _, v := range vars {
		all = append(all, strings.ReplaceAll(v.From, " ", "~")+v.To)
	}
	return strings.Join(all, " ")
}

// isEmpty tells whether a datum is zero.
func isEmpty(d api.Datum) bool {
	return d.Kind == 0 && d.N == 0 && d.Text == "" && len(d.Items) == 0
}

// isWhole tells whether a bound, and all within it, has the name, the depth, and nothing that may not be beside that.
func isWhole(b api.Bound, name string, depth int) bool {
	if b.Name != name || b.Depth != depth || depth == 0 && len(b.Kids) > 0 || depth > 0 && !isEmpty(b.D) {
		return false
	}
	for _, kid := range b.Kids {
		if !isWhole(kid, name, depth-1) {
			return false
		}
	}
	return true
}

// same tells whether two data are alike in all fields.
func same(a, b api.Datum) bool {
	return a.Kind == b.Kind && a.N == b.N && a.Text == b.Text && slices.EqualFunc(a.Items, b.Items, same)
}

// sameBound tells whether two bounds are.
func sameBound(a, b api.Bound) bool {
	return a.Name == b.Name && a.Depth == b.Depth && same(a.D, b.D) && slices.EqualFunc(a.Kids, b.Kids, sameBound)
}

// world is a table with some aliases, and places where names are bound.
func world(t *testing.T) *env.Table {
	t.Helper()
	table := env.New()
	table.Top("if", api.Meaning{Kind: api.MCore, N: 2})
	table.Top("when", api.Meaning{Kind: api.MCore, N: 2})
	inner, e := table.Extend(0, "else", api.Meaning{Kind: api.MLocal, N: 1})
	if inner != 1 || e != nil {
		t.Fatal(inner, e)
	}
	second, e := table.Extend(1, "if", api.Meaning{Kind: api.MLocal, N: 1})
	if second != 2 || e != nil {
		t.Fatal(second, e)
	}
	for i, made := range []struct {
		name, want string
		at         int
	}{{"else", "else 1", 0}, {"else", "else 2", 1}, {"if", "if 3", 0}, {"_", "_ 4", 0}, {"...", "... 5", 0}, {"x", "x 6", 0}, {"else 1", "else 7", 2}} {
		if s, e := table.Alias(made.name, made.at); s != made.want || e != nil {
			t.Fatal(i, s, e)
		}
	}
	third, e := table.Extend(2, "else 1", api.Meaning{Kind: api.MLocal, N: 2})
	if third != 3 || e != nil {
		t.Fatal(third, e)
	}
	return table
}

// stands holds what a pattern's variables stand for in a datum; want is "no", where it doesn't match.
func stands(t *testing.T, p, d api.Datum, literals []string, ellipsis, want string) {
	t.Helper()
	bounds, ok := match.Match(world(t), 0, p, 0, d, literals, ellipsis)
	got := allSaid(bounds)
	if !ok {
		got = "no" + got
	}
	if got != want {
		t.Errorf("Match of %s and %s, with %q and %s: %s; want %s", shown(p), shown(d), literals, ellipsis, got, want)
		return
	}
	if !ok && bounds != nil {
		t.Errorf("Match of %s and %s: false, and %v", shown(p), shown(d), bounds)
	}
	if !ok {
		return
	}
	vars := match.Vars(p, literals, ellipsis)
	if len(vars) != len(bounds) {
		t.Fatalf("%s has the variables %q, and these stand for something: %s", shown(p), allVars(vars), got)
	}
	for i, b := range bounds {
		if !isWhole(b, vars[i].From, len(vars[i].To)) {
			t.Errorf("Match of %s and %s: %+v isn't what may stand for %v", shown(p), shown(d), b, vars[i])
		}
	}
}

// The chapter's examples.
func TestExamples(t *testing.T) {
	stands(t, datum("(a b ...)"), datum("(1 2 3)"), nil, dots, "a=1 b=[2 3]")
	stands(t, datum("(a ... z)"), datum("(1 2 3)"), nil, dots, "a=[1 2] z=3")
	stands(t, datum("(a . r)"), datum("(1 2 3)"), nil, dots, "a=1 r=(2 3)")
	stands(t, datum("((k v) ...)"), datum("((x 1) (y 2))"), nil, dots, "k=[x y] v=[1 2]")
}

// P12.1: what may be a pattern, and its variables with their depths, in the order in which they stand.
func TestPatterns(t *testing.T) {
	for _, c := range []struct{ p, literals, dots, want string }{
		{"a", "", dots, "a"}, {"_", "", dots, ""}, {"else", "else", dots, ""}, {"1", "", dots, ""}, {"()", "", dots, ""}, {"#()", "", dots, ""}, {`"a"`, "", dots, ""}, {"#t", "", dots, ""}, {`#\a`, "", dots, ""},
		{"(a b c)", "", dots, "a b c"}, {"(c b a)", "", dots, "c b a"}, {"(b (c (a)) #(e d) . f)", "", dots, "b c a e d f"}, {"(1 b 2 a)", "", dots, "b a"},
		{"(_ _ a _ . _)", "", dots, "a"}, {"(else a else (else) . else)", "else", dots, "a"}, {"(else => a b)", "else => if", dots, "a b"}, {"(else => a b)", "else else", dots, "=> a b"},
		{"(a ...)", "", dots, "a*"}, {"(a b ...)", "", dots, "a b*"}, {"(a ... b)", "", dots, "a* b"}, {"(c a ... b d)", "", dots, "c a* b d"}, {"(a ... . b)", "", dots, "a* b"}, {"(a b ... c . d)", "", dots, "a b* c d"},
		{"#(a ...)", "", dots, "a*"}, {"#(a b ... c)", "", dots, "a b* c"}, {"(_ ...)", "", dots, ""}, {"(1 ...)", "", dots, ""}, {"(() ... a)", "", dots, "a"}, {"(else ... a)", "else", dots, "a"},
		{"((a ...) ...)", "", dots, "a**"}, {"((a b ...) ...)", "", dots, "a* b**"}, {"((a ...) b ...)", "", dots, "a* b*"}, {"((a ... b) ... c)", "", dots, "a** b* c"}, {"(((a ...) ... b) ...)", "", dots, "a*** b*"},
		{"((a . b) ...)", "", dots, "a* b*"}, {"((a ... . b) ... . c)", "", dots, "a** b* c"}, {"(#((a) ...) ...)", "", dots, "a**"}, {"((a ...) (b ...))", "", dots, "a* b*"}, {"(x (a ...) . #(b ...))", "", dots, "x a* b*"},
		{"(((((((((a ...) ...) ...) ...) ...) ...) ...) ...) ...)", "", dots, "a*********"}, {"((((a) ...)) ...)", "", dots, "a**"},
		{"(let ((v e) ...) b0 b ...)", "", dots, "let v* e* b0 b*"}, {"('a ...)", "", dots, "quote* a*"}, {"('a ...)", "quote", dots, "a*"},
		// Another ellipsis.
		{"(a etc)", "", "etc", "a*"}, {"(a ...)", "", "etc", "a ..."}, {"...", "", "etc", "..."}, {"(a . ...)", "", "etc", "a ..."}, {"(... etc)", "", "etc", "...*"}, {"(a etc (b ... etc) etc2)", "", "etc", "a* b ...* etc2"}, {"((a etc) etc)", "else", "etc", "a**"},
		{"(a ...~1)", "", "...~1", "a*"}, {"(a ...~1)", "", dots, "a ...~1"}, {"(a ...)", "", "...~1", "a ..."}, {"...~1", "", dots, "...~1"},
		// No ellipsis, as it is a literal.
		{"(a ...)", "...", dots, "a"}, {"...", "...", dots, ""}, {"(... ... a ... ...)", "...", dots, "a"}, {"(a . ...)", "...", dots, "a"}, {"(a etc etc)", "else etc", "etc", "a"}, {"(a ... etc)", "etc", "etc", "a ..."},
		// An underscore that is a literal; aliases of it.
		{"(_ a _)", "_", dots, "a"}, {"(_ ...)", "_", dots, ""}, {"(_~1 a _)", "", dots, "_~1 a"}, {"(__ _a _)", "", dots, "__ _a"},
		// Aliases are names of their own.
		{"(a a~1 a~2)", "", dots, "a a~1 a~2"}, {"(else else~1)", "else", dots, "else~1"}, {"(else else~1 else~1)", "else~1", dots, "else"}, {"(x~6 ... y)", "", dots, "x~6* y"},
	} {
		p := datum(c.p)
		literals, ellipsis := namesOf(c.literals), strings.Join(namesOf(c.dots), "")
		if e := match.Check(p, literals, ellipsis); e != nil {
			t.Errorf("Check(%s, %q, %s): %v", c.p, literals, ellipsis, e)
		}
		if got := allVars(match.Vars(p, literals, ellipsis)); got != c.want {
			t.Errorf("Vars(%s, %q, %s) = %s; want %s", c.p, literals, ellipsis, got, c.want)
		}
	}
}

// refuses holds that p may be no pattern, and matches nothing.
func refuses(t *testing.T, p api.Datum, literals []string, ellipsis string) {
	t.Helper()
	if e := match.Check(p, literals, ellipsis); !errors.Is(e, api.ErrForm) {
		t.Errorf("Check(%.200s, %q, %s): %v; want %v", shown(p), literals, ellipsis, e, api.ErrForm)
	}
	if vars := match.Vars(p, literals, ellipsis); len(vars) > 0 {
		t.Errorf("Vars(%.200s, %q, %s) = %s", shown(p), literals, ellipsis, allVars(vars))
	}
	matchesNothing(t, p, literals, ellipsis)
}

// matchesNothing holds that nothing matches p, not even itself.
func matchesNothing(t *testing.T, p api.Datum, literals []string, ellipsis string) {
	t.Helper()
	for _, d := range append([]api.Datum{p}, data("() (1) (1 2) (1 1) (a a) (1 2 3) (1 . 2) (1 1 . 1) #() #(1 2) 1 a ... etc ((1) 1) ((1) (1)) (1 (1))")...) {
		if bounds, ok := match.Match(world(t), 0, p, 0, d, literals, ellipsis); ok || bounds != nil {
			t.Errorf("Match of %.200s and %.200s, with %q and %s: %s", shown(p), shown(d), literals, ellipsis, allSaid(bounds))
		}
	}
}

// P12.1, P12.2: what may be none.
func TestNoPatterns(t *testing.T) {
	for _, c := range []struct{ p, literals, dots string }{
		// An ellipsis that stands alone, or first, or behind another one, or twice in a row, or as a tail.
		{"...", "", dots}, {"(...)", "", dots}, {"#(...)", "", dots}, {"(... a)", "", dots}, {"#(... a)", "", dots}, {"(... . a)", "", dots}, {"(... ...)", "", dots}, {"(... a ...)", "", dots},
		{"(a ... ...)", "", dots}, {"#(a ... ...)", "", dots}, {"(a ... b ...)", "", dots}, {"#(a ... b ...)", "", dots}, {"(a ... b c ... . d)", "", dots}, {"((a ...) ... b ...)", "", dots}, {"(a ... (b ...) ...)", "", dots}, {"(a ... ... . b)", "", dots},
		{"(a . ...)", "", dots}, {"(a ... . ...)", "", dots}, {"(a b . ...)", "", dots}, {"(a #(...))", "", dots},
		// The same further in.
		{"((...) a)", "", dots}, {"(a (...))", "", dots}, {"(a (b ... ...) c)", "", dots}, {"(a (b ... c ...) ...)", "", dots}, {"((a . ...) ...)", "", dots}, {"(1 #(a (... b)))", "", dots}, {"(a . #(... b))", "", dots}, {"((... a) ...)", "", dots}, {"(((((...)))))", "", dots}, {"(_ ... ...)", "", dots}, {"(1 ... 2 ...)", "", dots},
		// A variable that stands twice.
		{"(a a)", "", dots}, {"(a b a)", "", dots}, {"(a . a)", "", dots}, {"#(a a)", "", dots}, {"(a (a))", "", dots}, {"((a) a)", "", dots}, {"((a) #(a))", "", dots}, {"(a ... a)", "", dots}, {"(a a ...)", "", dots}, {"((a ...) (a ...))", "", dots}, {"((a b) ... . b)", "", dots}, {"(((((a))) b) (c (((a)))))", "", dots}, {"('a 'b)", "", dots},
		{"(a~1 b a~1)", "", dots}, {"(else a else)", "", dots}, {"(else a else)", "if =>", dots}, {"(else~1 else~1)", "else", dots}, {"(__ __)", "", dots}, {"(_~1 _~1)", "", dots},
		// Another ellipsis.
		{"etc", "", "etc"}, {"(etc a)", "", "etc"}, {"(a etc etc)", "", "etc"}, {"(a . etc)", "", "etc"}, {"(... ...)", "", "etc"}, {"(a ... b ...)", "", "etc"}, {"(a ...~1 ...~1)", "", "...~1"}, {"(...~1 ...~1)", "", dots}, {"(a ... b ...)", "etc", "etc"}, {"(a a)", "...", dots},
	} {
		refuses(t, datum(c.p), namesOf(c.literals), strings.Join(namesOf(c.dots), ""))
	}
}

// P12.2: rows without an ellipsis, and what they match.
func TestPlainRows(t *testing.T) {
	for _, c := range []struct{ p, d, want string }{
		{"a", "1", "a=1"}, {"a", "b", "a=b"}, {"a", "a", "a=a"}, {"a", "()", "a=()"}, {"a", "(1 (2) . 3)", "a=(1 (2) . 3)"}, {"a", "#(1 #(2))", "a=#(1 #(2))"}, {"a", "...", "a=..."}, {"a", "_", "a=_"}, {"a", `"s"`, `a="s"`}, {"a", "x~6", "a=x~6"},
		{"_", "1", ""}, {"_", "()", ""}, {"_", "(1 . 2)", ""}, {"_", "#(x)", ""}, {"_", "...", ""}, {"(_ _)", "(1 2)", ""}, {"(_ _)", "(1)", "no"}, {"(_ . _)", "(1 2 3)", ""}, {"(_ . _)", "()", "no"},
		{"()", "()", ""}, {"()", "(1)", "no"}, {"()", "#()", "no"}, {"()", "1", "no"}, {"()", "x", "no"}, {"()", "(1 . 2)", "no"}, {"#()", "#()", ""}, {"#()", "()", "no"}, {"#()", "#(1)", "no"}, {"#()", `""`, "no"},
		{"(a)", "(1)", "a=1"}, {"(a)", "()", "no"}, {"(a)", "(1 2)", "no"}, {"(a)", "1", "no"}, {"(a)", "#(1)", "no"}, {"(a)", "((1 2))", "a=(1 2)"}, {"(a)", "(())", "a=()"}, {"(a b)", "(1 2)", "a=1 b=2"}, {"(b a)", "(1 2)", "b=1 a=2"}, {"(a b)", "(1)", "no"}, {"(a b)", "(1 2 3)", "no"}, {"(a b)", "(1 . 2)", "no"}, {"(a b)", "(1 2 . 3)", "no"},
		{"((a) (b))", "((1) (2))", "a=1 b=2"}, {"((a) (b))", "((1) 2)", "no"}, {"((a) (b))", "((1) (2 3))", "no"}, {"((a (b)) c)", "((1 (2)) 3)", "a=1 b=2 c=3"}, {"(a (b))", "(1 #(2))", "no"},
		{"#(a b)", "#(1 2)", "a=1 b=2"}, {"#(a b)", "#(1)", "no"}, {"#(a b)", "#(1 2 3)", "no"}, {"#(a b)", "(1 2)", "no"}, {"#(a (b) #(c))", "#(1 (2) #(3))", "a=1 b=2 c=3"}, {"(#(a) . b)", "(#(1) #(2))", "a=1 b=(#(2))"},
		// Tails.
		{"(a . r)", "(1 2 3)", "a=1 r=(2 3)"}, {"(a . r)", "(1)", "a=1 r=()"}, {"(a . r)", "()", "no"}, {"(a . r)", "(1 . 2)", "a=1 r=2"}, {"(a . r)", "(1 2 . 3)", "a=1 r=(2 . 3)"}, {"(a . r)", "(1 2 3 . 4)", "a=1 r=(2 3 . 4)"}, {"(a . r)", "1", "no"}, {"(a . r)", "#(1 2)", "no"}, {"(a . r)", "(1 . #(2))", "a=1 r=#(2)"}, {"(a . r)", "(1 #(2))", "a=1 r=(#(2))"}, {"(a . r)", "((1 2) 3)", "a=(1 2) r=(3)"},
		{"(a b . r)", "(1 2)", "a=1 b=2 r=()"}, {"(a b . r)", "(1 2 3)", "a=1 b=2 r=(3)"}, {"(a b . r)", "(1 2 . 3)", "a=1 b=2 r=3"}, {"(a b . r)", "(1 2 3 . 4)", "a=1 b=2 r=(3 . 4)"}, {"(a b . r)", "(1)", "no"}, {"(a b . r)", "(1 . 2)", "no"}, {"(a b . r)", "()", "no"},
		{"(a . 2)", "(1 . 2)", "a=1"}, {"(a . 2)", "(1 . 3)", "no"}, {"(a . 2)", "(1 2)", "no"}, {"(a . 2)", "(1)", "no"}, {"(a . 2)", "(1 1 . 2)", "no"}, {"(a . #(b))", "(1 . #(2))", "a=1 b=2"}, {"(a . #(b))", "(1 2)", "no"}, {"(a . #(b))", "(1 #(2))", "no"}, {"(a . #())", "(1)", "no"}, {"(a . #())", "(1 . #())", "a=1"},
		{"((a . b) . c)", "((1 . 2) 3)", "a=1 b=2 c=(3)"}, {"((a . b) . c)", "((1 2) . 3)", "a=1 b=(2) c=3"}, {"((a . b) c)", "(1 2)", "no"},
		// Constants.
		{"1", "1", ""}, {"1", "2", "no"}, {"1", "#t", "no"}, {"1", `#\a`, "no"}, {"1", "x", "no"}, {"0", "#f", "no"}, {"#f", "0", "no"}, {"#t", "#t", ""}, {"#t", "#f", "no"}, {"#f", "()", "no"}, {`#\a`, `#\a`, ""}, {`#\a`, `#\b`, "no"}, {`#\a`, "97", "no"}, {"97", `#\a`, "no"}, {`#\nul`, "0", "no"}, {`#\nul`, "#f", "no"},
		{`"a"`, `"a"`, ""}, {`"a"`, `"b"`, "no"}, {`"a"`, "a", "no"}, {`"a"`, `"a "`, "no"}, {`""`, `""`, ""}, {`""`, "0", "no"}, {`""`, "()", "no"}, {"-1152921504606846976", "-1152921504606846976", ""}, {"1", "1152921504606846975", "no"},
		{"(1 a 2)", "(1 3 2)", "a=3"}, {"(1 a 2)", "(1 3 3)", "no"}, {"(1 a 2)", "(2 3 2)", "no"},
	} {
		stands(t, datum(c.p), datum(c.d), nil, dots, c.want)
	}
}

// P12.2: rows with an ellipsis: it takes what is between the first and the last ones.
func TestEllipses(t *testing.T) {
	for _, c := range []struct{ p, d, want string }{
		{"(a ...)", "()", "a=[]"}, {"(a ...)", "(1)", "a=[1]"}, {"(a ...)", "(1 2 3)", "a=[1 2 3]"}, {"(a ...)", "(1 . 2)", "no"}, {"(a ...)", "1", "no"}, {"(a ...)", "#(1)", "no"}, {"(a ...)", "#()", "no"}, {"(a ...)", "((1) ())", "a=[(1) ()]"}, {"(a ...)", "(...)", "a=[...]"},
		{"(a b ...)", "()", "no"}, {"(a b ...)", "(1)", "a=1 b=[]"}, {"(a b ...)", "(1 2)", "a=1 b=[2]"}, {"(a ... b)", "()", "no"}, {"(a ... b)", "(1)", "a=[] b=1"}, {"(a ... b)", "(1 2)", "a=[1] b=2"}, {"(a ... b)", "(1 2 3)", "a=[1 2] b=3"}, {"(a ... b)", "(1 . 2)", "no"}, {"(a ... b)", "(1 2 . 3)", "no"},
		{"(a b ... c d)", "(1 2)", "no"}, {"(a b ... c d)", "(1 2 3)", "a=1 b=[] c=2 d=3"}, {"(a b ... c d)", "(1 2 3 4)", "a=1 b=[2] c=3 d=4"}, {"(a b ... c d)", "(1 2 3 4 5)", "a=1 b=[2 3] c=4 d=5"}, {"(a b c ... d)", "(1 2 3)", "a=1 b=2 c=[] d=3"},
		{"#(a ...)", "#()", "a=[]"}, {"#(a ...)", "#(1 2)", "a=[1 2]"}, {"#(a ...)", "(1 2)", "no"}, {"#(a ... b)", "#()", "no"}, {"#(a b ... c)", "#(1 2 3 4)", "a=1 b=[2 3] c=4"}, {"#(a b ... c)", "#(1)", "no"},
		// Tails behind an ellipsis: the datum's own, or the empty list.
		{"(a ... . r)", "()", "a=[] r=()"}, {"(a ... . r)", "(1 2)", "a=[1 2] r=()"}, {"(a ... . r)", "(1 . 2)", "a=[1] r=2"}, {"(a ... . r)", "(1 2 3 . 4)", "a=[1 2 3] r=4"}, {"(a ... . r)", "1", "no"}, {"(a ... . r)", "#(1)", "no"}, {"(a ... . r)", "(1 . #(2))", "a=[1] r=#(2)"},
		{"(a ... . 2)", "(1 . 2)", "a=[1]"}, {"(a ... . 2)", "(1 2)", "no"}, {"(a ... . 2)", "()", "no"}, {"(a ... . #(b))", "(1 . #(2))", "a=[1] b=2"}, {"(a ... . #(b))", "(1 #(2))", "no"}, {"(a ... . #(b ...))", "(1)", "no"},
		{"(a ... b . r)", "(1)", "a=[] b=1 r=()"}, {"(a ... b . r)", "()", "no"}, {"(a ... b . r)", "(1 2 3)", "a=[1 2] b=3 r=()"}, {"(a ... b . r)", "(1 2 . 3)", "a=[1] b=2 r=3"}, {"(a ... b . r)", "(1 . 2)", "a=[] b=1 r=2"}, {"(a b ... c . r)", "(1 . 2)", "no"}, {"(a b ... c . r)", "(1 2 . 3)", "a=1 b=[] c=2 r=3"}, {"(a b ... c d . r)", "(1 2 3 4 5 6 . 7)", "a=1 b=[2 3 4] c=5 d=6 r=7"},
		// What is no variable ahead of an ellipsis.
		{"(1 ...)", "()", ""}, {"(1 ...)", "(1 1 1)", ""}, {"(1 ...)", "(1 2 1)", "no"}, {"(1 ...)", "(2 1 1)", "no"}, {"(1 ...)", "(1 1 2)", "no"}, {"(_ ... a)", "(1 2 3)", "a=3"}, {"(() ... a)", "(() () 1)", "a=1"}, {"(() ... a)", "(() (1) 1)", "no"}, {"(1 ... 2 a)", "(1 1 2 3)", "a=3"}, {"(1 ... 1)", "(1 1 1)", ""}, {"(1 ... 1)", "()", "no"}, {"(_ ... . _)", "(1 . 2)", ""},
		// Rows ahead of an ellipsis.
		{"((k v) ...)", "()", "k=[] v=[]"}, {"((k v) ...)", "((1 2))", "k=[1] v=[2]"}, {"((k v) ...)", "((1 2) (3 4) (5 6))", "k=[1 3 5] v=[2 4 6]"}, {"((k v) ...)", "((1 2) (3))", "no"}, {"((k v) ...)", "((1) (2 3))", "no"}, {"((k v) ...)", "((1 2) (3 4) 5)", "no"}, {"((k v) ...)", "((1 2) (3 4 5))", "no"}, {"((k v) ...)", "((1 2) #(3 4))", "no"}, {"((k v) ...)", "(1 2)", "no"},
		{"((a . b) ...)", "((1) (2 3) (4 . 5))", "a=[1 2 4] b=[() (3) 5]"}, {"(#(a) ...)", "(#(1) #(2))", "a=[1 2]"}, {"((1 a) ... b)", "((1 2) (1 3) 4)", "a=[2 3] b=4"}, {"((1 a) ... b)", "((1 2) (2 3) 4)", "no"},
		// Ellipses within one another.
		{"((a ...) ...)", "()", "a=[]"}, {"((a ...) ...)", "(())", "a=[[]]"}, {"((a ...) ...)", "((1 2) () (3))", "a=[[1 2] [] [3]]"}, {"((a ...) ...)", "((1 2) 3)", "no"}, {"((a ...) ...)", "((1) (2 . 3))", "no"}, {"((a b ...) ...)", "((1 2 3) (4))", "a=[1 4] b=[[2 3] []]"}, {"((a b ...) ...)", "((1 2 3) ())", "no"},
		{"((a ... b) ... c)", "((1 2 3) (4) 5)", "a=[[1 2] []] b=[3 4] c=5"}, {"(((a ...) ...) ...)", "(((1) (2 3)) () (()))", "a=[[[1] [2 3]] [] [[]]]"}, {"((a ... . b) ... . c)", "((1 2 . 3) (4) . 5)", "a=[[1 2] [4]] b=[3 ()] c=5"}, {"(#((a) ...) ...)", "(#((1) (2)) #())", "a=[[1 2] []]"}, {"((((a) ...)) ...)", "((((1) (2))) ((())))", "no"}, {"((((a) ...)) ...)", "((((1) (2))) (()))", "a=[[1 2] []]"},
		{"(f ((v e) ...) b0 b ...)", "(let ((x 1) (y (g 2))) (h x) y)", "f=let v=[x y] e=[1 (g 2)] b0=(h x) b=[y]"}, {"((a ...) (b ...) c ...)", "((1) (2 3) 4)", "a=[1] b=[2 3] c=[4]"}, {"((a ...) (b ...) c ...)", "((1))", "no"},
	} {
		stands(t, datum(c.p), datum(c.d), nil, dots, c.want)
	}
}
