package fill_test

import (
	"errors"
	"slices"
	"strings"
	"testing"

	"spindle/api"
	"spindle/fill"
	"spindle/read"
	"spindle/show"
)

const dots = "..."

func sym(s string) api.Datum            { return api.Datum{Kind: api.DSym, Text: s} }
func num(n int) api.Datum               { return api.Datum{Kind: api.DInt, N: n} }
func list(items ...api.Datum) api.Datum { return api.Datum{Kind: api.DList, Items: items} }
func dot(items ...api.Datum) api.Datum  { return api.Datum{Kind: api.DDot, Items: items} }
func vec(items ...api.Datum) api.Datum  { return api.Datum{Kind: api.DVec, Items: items} }

// data are those of a text, in which a ~ stands for the blank of an alias.
func data(text string) []api.Datum {
	all, e := read.All(text)
	if e != nil {
		panic(text + ": " + e.Error())
	}
	for i, d := range all {
		all[i] = renamed(d, "~", " ")
	}
	return all
}

// datum is the only one of a text.
func datum(text string) api.Datum {
	all := data(text)
	if len(all) != 1 {
		panic(text)
	}
	return all[0]
}

// renamed is d with other texts of names, in new memory.
func renamed(d api.Datum, from, to string) api.Datum {
	if d.Kind == api.DSym {
		d.Text = strings.ReplaceAll(d.Text, from, to)
	}
	items := d.Items
	d.Items = nil
	for _, item := range items {
		d.Items = append(d.Items, renamed(item, from, to))
	}
	return d
}

// shown is a datum's text, a ~ likewise.
func shown(d api.Datum) string {
	s, e := show.Write(renamed(d, " ", "~"))
	if e != nil {
		return "?"
	}
	return s
}

// alias is a name's text, a ~ likewise.
func alias(name string) string { return strings.ReplaceAll(name, "~", " ") }

// stands are the bounds of a text: variables, each with its stars behind, and what each stands for, of stars within lists.
func stands(text string) []api.Bound {
	var bounds []api.Bound
	for pair := range slices.Chunk(data(text), 2) {
		name := strings.TrimRight(pair[0].Text, "*")
		bounds = append(bounds, bound(name, len(pair[0].Text)-len(name), pair[1]))
	}
	return bounds
}

// bound is what a variable stands for.
func bound(name string, depth int, d api.Datum) api.Bound {
	if depth == 0 {
		return api.Bound{Name: name, D: d}
	}
	b := api.Bound{Name: name, Depth: depth}
	for _, item := range d.Items {
		b.Kids = append(b.Kids, bound(name, depth-1, item))
	}
	return b
}

// calls are the pairs of a text: names, each with what it is called instead.
func calls(text string) []api.Pair {
	var pairs []api.Pair
	for pair := range slices.Chunk(strings.Fields(text), 2) {
		pairs = append(pairs, api.Pair{From: alias(pair[0]), To: alias(pair[1])})
	}
	return pairs
}

// same tells whether two data are alike in all fields.
func same(a, b api.Datum) bool {
	return a.Kind == b.Kind && a.N == b.N && a.Text == b.Text && slices.EqualFunc(a.Items, b.Items, same)
}

// isEmpty tells whether a datum is zero.
func isEmpty(d api.Datum) bool {
	return d.Kind == 0 && d.N == 0 && d.Text == "" && len(d.Items) == 0
}

// fails holds that a template can't be filled, for that reason.
func fails(t *testing.T, p api.Datum, bounds []api.Bound, ellipsis string, want error) {
	t.Helper()
	if got, e := fill.Fill(p, bounds, ellipsis, nil); !errors.Is(e, want) || !isEmpty(got) {
		t.Errorf("Fill(%.80s) = %.80s, %v; want %v", shown(p), shown(got), e, want)
	}
}

// gives holds what comes of a template; want is "no", where it is a form that is none.
func gives(t *testing.T, p, bounds, ellipsis, pairs, want string) {
	t.Helper()
	if want == "no" {
		fails(t, datum(p), stands(bounds), ellipsis, api.ErrForm)
		return
	}
	got, e := fill.Fill(datum(p), stands(bounds), ellipsis, calls(pairs))
	if e != nil || !same(got, datum(want)) {
		t.Errorf("Fill(%s, %s, %s, %s) = %s, %v; want %s", p, bounds, ellipsis, pairs, shown(got), e, want)
	}
}

// The chapter's examples.
func TestExamples(t *testing.T) {
	gives(t, "(a (b x) ...)", "a 1 b* (2 3)", dots, "x x~1", "(1 (2 x~1) (3 x~1))")
	gives(t, "(... ...)", "a 1 b* (2 3)", dots, "", "...")
	gives(t, "(b)", "a 1 b* (2 3)", dots, "", "no")
	gives(t, "(a . c)", "a 1 b* (2 3) c (5)", dots, "", "(1 5)")
}

// P13.1: the names that are brought in, in the order in which they stand first, each once.
func TestNames(t *testing.T) {
	for _, c := range []struct{ p, bounds, dots, want string }{
		{"x", "a 1", dots, "x"}, {"a", "a 1", dots, ""}, {"1", "", dots, ""}, {"#t", "", dots, ""}, {`#\a`, "", dots, ""}, {`"x"`, "", dots, ""}, {"()", "", dots, ""}, {"#()", "", dots, ""}, {"_", "", dots, "_"},
		{"(x y z)", "", dots, "x y z"}, {"(z y x)", "", dots, "z y x"}, {"(x y x z y x)", "", dots, "x y z"}, {"(a x a y)", "a 1", dots, "x y"}, {"(z (y (x)) #(w v) . u)", "", dots, "z y x w v u"}, {"(x . y)", "", dots, "x y"}, {"(y . x)", "", dots, "y x"}, {"(x y . x)", "", dots, "x y"}, {"(x . a)", "a 1", dots, "x"}, {"(x . #(y x z))", "", dots, "x y z"}, {"#(x (y) x)", "", dots, "x y"}, {"((((y))) x (y))", "", dots, "y x"}, {"'(x 'y)", "", dots, "quote x y"}, {"(1 x \"y\" z)", "", dots, "x z"},
		{"(if a (b ...) (let ((t a)) t))", "a 1 b* (2)", dots, "if let t"},
		// Variables, however deep what they stand for is, where several have one name, and where what they stand for are names.
		{"(a b c)", "a x b* (y) c** ((z))", dots, ""}, {"(a b c)", "b** ()", dots, "a c"}, {"(a b)", "a 1 a* (2)", dots, "b"}, {"(x a)", "x 1 x 2", dots, "a"}, {"(x~1 x)", "x 1", dots, "x~1"}, {"(x~1 x)", "x~1 1", dots, "x"}, {"(x~1 x~2 x~1 x)", "", dots, "x~1 x~2 x"},
		// Ellipses that count are none.
		{"(b ...)", "b* (2)", dots, ""}, {"(x b ... y)", "b* (2)", dots, "x y"}, {"(x ...)", "", dots, "x"}, {"((b x) ... ... y)", "b** ()", dots, "x y"}, {"(b ... . y)", "b* (2)", dots, "y"}, {"#(b ... y ... x)", "b* (2)", dots, "y x"}, {"((b ...) ... x)", "b** ()", dots, "x"}, {"(1 ... ... ...)", "", dots, ""}, {"(x . #(y ...))", "", dots, "x y"}, {"(x (y ...) . z)", "", dots, "x y z"},
		// One at a row's beginning is an item.
		{"(...)", "", dots, "..."}, {"#(...)", "", dots, "..."}, {"(... x y)", "", dots, "... x y"}, {"(x (... y z))", "", dots, "x ... y z"}, {"(... ... x)", "", dots, "... x"}, {"(... ... ...)", "", dots, "..."}, {"#(... ...)", "", dots, "..."}, {"#(... x)", "", dots, "... x"}, {"(... . x)", "", dots, "... x"}, {"(... x . y)", "", dots, "... x y"}, {"(x ... #(... ...))", "", dots, "x ..."},
		// What is escaped: in it none counts.
		{"(... ...)", "", dots, "..."}, {"(... x)", "", dots, "x"}, {"(... a)", "a 1", dots, ""}, {"(... 1)", "", dots, ""}, {"(... ())", "", dots, ""}, {"(... (x ...))", "", dots, "x ..."}, {"(... (x . #(y ...)))", "", dots, "x y ..."}, {`("..." x)`, "", dots, "x"}, {`(x "...")`, "", dots, "x"}, {`(... "...")`, "", dots, ""}, {"(... (... x))", "", dots, "... x"}, {"(... (... ...))", "", dots, "..."}, {"(... (x y ... z ...))", "", dots, "x y ... z"}, {"(x (... ...) y)", "", dots, "x ... y"}, {"(x (... (y ...)) ... z)", "", dots, "x y ... z"}, {"((... ...) x ...)", "", dots, "... x"}, {"(x ... (... (y (z ...))))", "", dots, "x y z ..."}, {"(... #(x ...))", "", dots, "x ..."}, {"(... (x . ...))", "", dots, "x ..."}, {"(x (... y) ... z)", "", dots, "x y z"}, {"(((... (x ...)) y ...))", "", dots, "x ... y"},
		{"(... (define-syntax x (syntax-rules () ((_ y ...) (z y ...)))))", "", dots, "define-syntax x syntax-rules _ y ... z"},
		// An ellipsis that is a variable.
		{"(x ...)", "... 1", dots, "x"}, {"(... ...)", "... 1", dots, ""}, {"(... x)", "...* (1)", dots, "x"}, {"(x ... (... y) ...)", "... 1", dots, "x y"}, {"(... ...~1)", "... 1", dots, "...~1"},
		// Another ellipsis.
		{"(x etc)", "", "etc", "x"}, {"(x ...)", "", "etc", "x ..."}, {"(x etc ...)", "", "etc", "x ..."}, {"(etc x)", "", "etc", "x"}, {"(etc etc)", "", "etc", "etc"}, {"(etc ...)", "", "etc", "..."}, {"(... etc)", "", "etc", "..."}, {"(... x etc2)", "", "etc", "... x etc2"}, {"(x ...~1)", "", "...~1", "x"}, {"(x ...~1)", "", dots, "x ...~1"}, {"(x ...)", "", "...~1", "x ..."}, {"(... ...)", "", "...~1", "..."}, {"(etc (x etc))", "etc 1", "etc", "x"}, {"(x _)", "", "_", "x"}, {"(x a)", "", "a", "x"},
	} {
		var want []string
		for _, name := range strings.Fields(c.want) {
			want = append(want, alias(name))
		}
		if got := fill.Names(datum(c.p), stands(c.bounds), alias(c.dots)); !slices.Equal(got, want) {
			t.Errorf("Names(%s, %s, %s) = %q; want %q", c.p, c.bounds, c.dots, got, want)
		}
	}
}

// P13.2: what is filled one by one: variables, other names, and what is itself.
func TestSingles(t *testing.T) {
	for _, c := range []struct{ p, bounds, pairs, want string }{
		{"a", "a 1", "", "1"}, {"a", "a x", "x y", "x"}, {"a", "a ()", "", "()"}, {"a", "a (1 (2) . 3)", "", "(1 (2) . 3)"}, {"a", "a #(1 #())", "", "#(1 #())"}, {"a", `a "s"`, "", `"s"`}, {"a", "a #f", "", "#f"}, {"a", `a #\a`, "", `#\a`}, {"a", "a a", "", "a"}, {"a", "a (a b)", "b c", "(a b)"}, {"a", "a ...", "", "..."}, {"a", "a (... b)", "", "(... b)"}, {"a", "a x~1", "x~1 y", "x~1"},
		{"b", "a 1 b 2", "", "2"}, {"(b a)", "a 1 b 2", "", "(2 1)"}, {"(a a)", "a (1)", "", "((1) (1))"}, {"(a b)", "a b b a", "", "(b a)"},
		// Of several with one name the first one counts.
		{"a", "a 1 a 2", "", "1"}, {"a", "b 3 a 1 a 2", "", "1"}, {"a", "a* (1) a 2", "", "no"}, {"a", "a 1 a* (2)", "", "1"}, {"(a ...)", "a* (1) a* (2 3)", "", "(1)"}, {"(a ...)", "a 1 a* (2 3)", "", "no"},
		// What stands for several things can't stand alone.
		{"a", "a* (1)", "", "no"}, {"a", "a* ()", "", "no"}, {"a", "a** ((1))", "", "no"}, {"(1 a)", "a* (1)", "", "no"}, {"(1 . a)", "a* (1)", "", "no"}, {"#(a)", "a* (1)", "", "no"}, {"(... a)", "a* (1)", "", "no"}, {"((b a) ...)", "a** ((1)) b* (2)", "", "no"}, {"((a b) ...)", "a* (1) b** ((2))", "", "no"},
		// Other names are called otherwise, by the first pair that is from them.
		{"x", "", "", "x"}, {"x", "", "x y", "y"}, {"x", "", "x x~1", "x~1"}, {"x~1", "", "x~1 x~2", "x~2"}, {"x~1", "", "x y", "x~1"}, {"x", "", "x~1 y", "x"}, {"x", "", "y x", "x"}, {"x", "", "x y y z", "y"}, {"x", "", "y z x y", "y"}, {"x", "", "x y x z", "y"}, {"x", "", "z y x y x w", "y"}, {"x", "", "x x", "x"}, {"(x y)", "", "x y y x", "(y x)"}, {"(x x (x))", "", "x z", "(z z (z))"}, {"(x . x)", "", "x z", "(z . z)"}, {"#(x)", "", "x z", "#(z)"}, {"_", "", "_ z", "z"}, {"X", "", "x z", "X"},
		{"a", "a 1", "a z", "1"}, {"(a x)", "a 1", "a z x a", "(1 a)"}, {"a", "a* ()", "a z", "no"}, {"a", "b 1", "a z", "z"},
		// Others are themselves.
		{"1", "a 2", "x y", "1"}, {"-5", "", "", "-5"}, {"#t", "", "", "#t"}, {`#\x`, "", "x y", `#\x`}, {`"x"`, "x 1", "x y", `"x"`}, {`""`, "", "", `""`}, {"()", "", "", "()"}, {"#()", "", "", "#()"}, {"(1 (2 . 3) #(4 \"5\"))", "", "", "(1 (2 . 3) #(4 \"5\"))"}, {"'x", "x 1", "", "'1"}, {"((()))", "", "", "((()))"}, {"(#() () #(()))", "", "", "(#() () #(()))"},
	} {
		gives(t, c.p, c.bounds, dots, c.pairs, c.want)
	}
}

// P13.2: items with ellipses.
func TestEllipses(t *testing.T) {
	for _, c := range []struct{ p, bounds, want string }{
		{"(b ...)", "b* ()", "()"}, {"(b ...)", "b* (1)", "(1)"}, {"(b ...)", "b* (1 2 3)", "(1 2 3)"}, {"#(b ...)", "b* (1 2)", "#(1 2)"}, {"#(b ...)", "b* ()", "#()"}, {"(b ...)", "b* ((1) () x)", "((1) () x)"}, {"(x b ... y)", "b* (1 2)", "(x 1 2 y)"}, {"(x b ... y)", "b* ()", "(x y)"}, {"(b ... b ...)", "b* (1 2)", "(1 2 1 2)"}, {"(b ... x c ...)", "b* (1 2) c* (3)", "(1 2 x 3)"}, {"((b ...))", "b* (1 2)", "((1 2))"}, {"((b ...) (b ...) b ...)", "b* (1 2)", "((1 2) (1 2) 1 2)"}, {"(#(b ...) . #(b ...))", "b* (1 2)", "(#(1 2) . #(1 2))"},
		{"((b) ...)", "b* (1 2)", "((1) (2))"}, {"((b x) ...)", "b* (1 2)", "((1 x) (2 x))"}, {"(#(x b) ...)", "b* (1 2)", "(#(x 1) #(x 2))"}, {"((b . x) ...)", "b* (1 2)", "((1 . x) (2 . x))"}, {"((x . b) ...)", "b* (1 () (2) (3 . 4))", "((x . 1) (x) (x 2) (x 3 . 4))"}, {"((b b) ...)", "b* (1 2)", "((1 1) (2 2))"}, {"(((b)) ...)", "b* (1 2)", "(((1)) ((2)))"}, {"((b (x #(b))) ...)", "b* (1 2)", "((1 (x #(1))) (2 (x #(2))))"},
		// What stands for one thing stands for the same each time.
		{"((a b) ...)", "a 5 b* (1 2)", "((5 1) (5 2))"}, {"((b a) ... a)", "a (5) b* (1 2)", "((1 (5)) (2 (5)) (5))"}, {"((a b) ...)", "a 5 b* ()", "()"},
		// Several that drive have as many things.
		{"((b c) ...)", "b* (1 2) c* (3 4)", "((1 3) (2 4))"}, {"((c b) ...)", "b* (1 2) c* (3 4)", "((3 1) (4 2))"}, {"((b c) ...)", "b* () c* ()", "()"}, {"((b c) ...)", "b* (1 2) c* (3)", "no"}, {"((b c) ...)", "b* (1) c* (3 4)", "no"}, {"((b c) ...)", "b* () c* (3)", "no"}, {"((b c) ...)", "b* (3) c* ()", "no"}, {"((b c d) ...)", "b* (1 2) c* (3 4) d* (5 6)", "((1 3 5) (2 4 6))"}, {"((b c d) ...)", "b* (1 2) c* (3 4) d* (5)", "no"}, {"((b . c) ...)", "b* (1 2) c* (3 (4))", "((1 . 3) (2 4))"}, {"((b . c) ...)", "b* (1 2) c* (3)", "no"}, {"((b #(x (c))) ...)", "b* (1 2) c* (3)", "no"}, {"((b (c ...)) ...)", "b* (1 2) c** ((3) (4 5))", "((1 (3)) (2 (4 5)))"}, {"((b (c ...)) ...)", "b* (1 2) c** ((3))", "no"}, {"(b ... c ...)", "b* (1 2) c* (3)", "(1 2 3)"},
		{"((b (c ...)) ...)", "b* (1 2) c* (3 4)", "no"}, {"((b (c ...)) ...)", "b* () c* ()", "()"},
		// Nothing drives.
		{"(1 ...)", "", "no"}, {"(x ...)", "", "no"}, {"(a ...)", "a 1", "no"}, {"(() ...)", "", "no"}, {"((a x) ...)", "a 1 b* (2)", "no"}, {"(x (y ...))", "b* (2)", "no"}, {"#(x ...)", "", "no"}, {"(x ... . y)", "", "no"}, {"(b ... x ...)", "b* (1)", "no"}, {"((b x ...) ...)", "b* (1)", "no"}, {"((b (a ...)) ...)", "a 1 b* (1)", "no"}, {"((b x ...) ...)", "b* ()", "()"}, {"((b (b ...)) ...)", "b* (1)", "no"}, {"((b (b ...)) ...)", "b* ()", "()"}, {"((b) ...)", "c* (1)", "no"},
		// Things within things.
		{"((b ...) ...)", "b** ((1 2) () (3))", "((1 2) () (3))"}, {"((b ...) ...)", "b** ()", "()"}, {"((b ...) ...)", "b* (1 2)", "no"}, {"((b ...) ...)", "b* ()", "()"}, {"(((b ...) ...) ...)", "b*** (((1) (2 3)) () (()))", "(((1) (2 3)) () (()))"}, {"((c b ...) ...)", "b** ((1 2) ()) c* (x y)", "((x 1 2) (y))"}, {"(((c b) ...) ...)", "b** ((1 2) (3)) c** ((x y) (z))", "(((x 1) (y 2)) ((z 3)))"}, {"(((c b) ...) ...)", "b** ((1 2) (3)) c** ((x y) (z w))", "no"}, {"(((c b) ...) ...)", "b** ((1 2) (3)) c* (x y)", "(((x 1) (x 2)) ((y 3)))"}, {"((b ... c ...) ...)", "b** ((1 2) ()) c** ((3) (4 5))", "((1 2 3) (4 5))"}, {"((b ...) ... b ... ...)", "b** ((1 2) (3))", "((1 2) (3) 1 2 3)"}, {"((a (b ... a) ... a) ...)", "a 0 b*** (((1) ()) ((2 3)))", "((0 (1 0) (0) 0) (0 (2 3 0) 0))"},
		// More ellipses: all comes into one row.
		{"(b ... ...)", "b** ((1 2) () (3))", "(1 2 3)"}, {"(b ... ...)", "b** ()", "()"}, {"(b ... ...)", "b** (() ())", "()"}, {"(b ... ...)", "b* (1 2)", "no"}, {"(b ... ...)", "b* ()", "()"}, {"(b ... ...)", "b*** (((1)))", "no"}, {"(b ... ... ...)", "b*** (((1) (2 3)) () ((4)))", "(1 2 3 4)"}, {"((b ...) ... ...)", "b*** (((1) (2 3)) () ((4)))", "((1) (2 3) (4))"}, {"((b ... ...) ...)", "b*** (((1) (2 3)) () ((4)))", "((1 2 3) () (4))"}, {"(x b ... ... y)", "b** ((1 2) (3))", "(x 1 2 3 y)"}, {"#(b ... ...)", "b** ((1 2) (3))", "#(1 2 3)"}, {"(b ... ... . c)", "b** ((1 2) (3)) c (4)", "(1 2 3 4)"},
		{"((b c) ... ...)", "b** ((1 2) (3)) c** ((4 5) (6))", "((1 4) (2 5) (3 6))"}, {"((b c) ... ...)", "b** ((1 2) (3)) c* (4 5)", "((1 4) (2 4) (3 5))"}, {"((b c a) ... ...)", "a 9 b** ((1 2) (3)) c* (4 5)", "((1 4 9) (2 4 9) (3 5 9))"}, {"((b c) ... ...)", "b** ((1 2) (3)) c* (4)", "no"}, {"((b c) ... ...)", "b** ((1 2) (3)) c** ((4 5) ())", "no"}, {"((b c) ... ...)", "b** ((1 2)) c** ((4 5) ())", "no"}, {"((b x) ... ...)", "b** ((1) (2 3))", "((1 x) (2 x) (3 x))"}, {"(x ... ...)", "b** ((1))", "no"}, {"((b c) ... ...)", "b* (1 2) c* (3 4)", "no"}, {"((b c) ... ...)", "b* () c* ()", "()"},
	} {
		gives(t, c.p, c.bounds, dots, "", c.want)
	}
}

// P13.2: rows and their tails.
func TestTails(t *testing.T) {
	for _, c := range []struct{ p, bounds, want string }{
		{"(x . 1)", "", "(x . 1)"}, {"(x . y)", "", "(x . y)"}, {"(x y . z)", "", "(x y . z)"}, {"(x . #(1))", "", "(x . #(1))"}, {"(a . c)", "a 1 c 2", "(1 . 2)"}, {"(a . c)", "a 1 c ()", "(1)"}, {"(a . c)", "a 1 c (2)", "(1 2)"}, {"(a . c)", "a 1 c (2 (3) 4)", "(1 2 (3) 4)"}, {"(a . c)", "a 1 c (2 . 3)", "(1 2 . 3)"}, {"(a . c)", "a 1 c (2 3 . #(4))", "(1 2 3 . #(4))"}, {"(a . c)", "a 1 c #(2 3)", "(1 . #(2 3))"}, {"(a . c)", "a 1 c #()", "(1 . #())"}, {"(a . c)", "a 1 c x", "(1 . x)"}, {"(a . c)", `a 1 c "s"`, `(1 . "s")`}, {"(a . c)", "a () c ()", "(())"}, {"(a . c)", "a (1) c (2)", "((1) 2)"}, {"(a a . c)", "a 1 c (2)", "(1 1 2)"}, {"(a . #(c))", "a 1 c (2)", "(1 . #((2)))"}, {"((a . c) . c)", "a 1 c (2)", "((1 2) 2)"}, {"#((a . c) a)", "a 1 c (2)", "#((1 2) 1)"},
		// Rows that come out empty.
		{"(b ... . c)", "b* () c 2", "2"}, {"(b ... . c)", "b* () c (2 3)", "(2 3)"}, {"(b ... . c)", "b* () c ()", "()"}, {"(b ... . c)", "b* () c (2 . 3)", "(2 . 3)"}, {"(b ... . c)", "b* () c #(2)", "#(2)"}, {"(b ... . x)", "b* ()", "x"}, {"(b ... . #(x))", "b* ()", "#(x)"}, {"(b ... ... . c)", "b** (() ()) c 2", "2"}, {"(b ... d ... . c)", "b* () d* () c (2)", "(2)"}, {"((b ... . c) x)", "b* () c 2", "(2 x)"}, {"((b ... . c) ...)", "b** (() (1)) c* (2 3)", "(2 (1 . 3))"},
		{"(b ... . c)", "b* (1) c 2", "(1 . 2)"}, {"(b ... . c)", "b* (1 2) c ()", "(1 2)"}, {"(b ... . c)", "b* (1 2) c (3 4)", "(1 2 3 4)"}, {"(b ... . c)", "b* (1 2) c (3 . 4)", "(1 2 3 . 4)"}, {"(b ... a . c)", "a 0 b* () c (3)", "(0 3)"},
		{"((b . c) ...)", "b* (1 2 3) c* (() 4 (5 6))", "((1) (2 . 4) (3 5 6))"}, {"((b ... . c) ...)", "b** ((1) (2 3)) c* ((4) 5)", "((1 4) (2 3 . 5))"}, {"((x . #(b ...)) ...)", "b** ((1 2) ())", "((x . #(1 2)) (x . #()))"}, {"((b . (... c)) ...)", "b* (1) c* (2)", "no"},
		{"(b . c)", "b 1 c* (2)", "no"}, {"(x . #(y ...))", "", "no"}, {"(b ... . c)", "b* () c* ()", "no"}, {"(b . c)", "b* (1) c 1", "no"},
		// An ellipsis that is a tail is a name there.
		{"(x . ...)", "", "(x . ...)"}, {"(b ... . ...)", "b* (1 2)", "(1 2 . ...)"}, {"(b . ...)", "b* (1 2)", "no"}, {"(b ... . ...)", "b* ()", "..."},
	} {
		gives(t, c.p, c.bounds, dots, "", c.want)
	}
}

// P13.2: what is escaped, and ellipses that are but names.
func TestEscapes(t *testing.T) {
	for _, c := range []struct{ p, bounds, dots, pairs, want string }{
		{"(... ...)", "", dots, "", "..."}, {"(... ...)", "", dots, "... ...~1", "...~1"}, {"(... x)", "", dots, "x y", "y"}, {"(... a)", "a 1", dots, "", "1"}, {"(... a)", "a (1)", dots, "", "(1)"}, {"(... 1)", "", dots, "", "1"}, {"(... ())", "", dots, "", "()"}, {"(... #(a))", "a 1", dots, "", "#(1)"}, {"(x (... ...) y)", "", dots, "", "(x ... y)"}, {"(x (... ...))", "", dots, "", "(x ...)"}, {"(x . #((... ...)))", "", dots, "", "(x . #(...))"},
		{"(... (b ...))", "b 1", dots, "", "(1 ...)"}, {"(... (b ...))", "b* (1)", dots, "", "no"}, {"(... (b ... ...))", "b 1", dots, "", "(1 ... ...)"}, {"(... (... ...))", "", dots, "", "(... ...)"}, {"(... (... a))", "a 1", dots, "", "(... 1)"}, {"(... ((x ...) ...))", "", dots, "... z", "((x z) z)"}, {"(... (x . ...))", "", dots, "", "(x . ...)"}, {"(... (x . #(b ...)))", "b 1", dots, "", "(x . #(1 ...))"}, {"(... (x . #((... b))))", "b 1", dots, "", "(x . #((... 1)))"}, {"(... #(x ... y))", "", dots, "", "#(x ... y)"}, {"(... (x #((y ...) ...) . z))", "", dots, "y w", "(x #((w ...) ...) . z)"}, {"((... (x ...)) y)", "", dots, "", "((x ...) y)"}, {"((... (b ...)) b)", "b 1", dots, "", "((1 ...) 1)"}, {"((... (b ...)) c ...)", "b 1 c* (2 3)", dots, "", "((1 ...) 2 3)"},
		// What is escaped is driven as well.
		{"((... b) ...)", "b* (1 2)", dots, "", "(1 2)"}, {"((... (b ...)) ...)", "b* (1 2)", dots, "", "((1 ...) (2 ...))"}, {"((x (... ...) b) ...)", "b* (1 2)", dots, "", "((x ... 1) (x ... 2))"}, {"((c (... b)) ...)", "b* (1 2) c* (3)", dots, "", "no"}, {"((c (... (b ...))) ...)", "b* (1 2) c* (3 4)", dots, "", "((3 (1 ...)) (4 (2 ...)))"}, {"((... x) ...)", "", dots, "", "no"}, {"((... ...) ...)", "b* (1)", dots, "", "no"}, {"((... b) ... ...)", "b** ((1) (2 3))", dots, "", "(1 2 3)"}, {"((... (b b)) ... ...)", "b** ((1) (2 3))", dots, "", "((1 1) (2 2) (3 3))"}, {"((... (b ...)) ...)", "b** ((1))", dots, "", "no"},
		// No escape: not two items, no list, or not the ellipsis.
		{"(...)", "", dots, "", "(...)"}, {"(...)", "", dots, "... z", "(z)"}, {"(... x y)", "", dots, "", "(... x y)"}, {"(... b ...)", "b* (1 2)", dots, "", "(... 1 2)"}, {"(... b c ...)", "b 0 c* (1 2)", dots, "... z", "(z 0 1 2)"}, {"(... ... ...)", "", dots, "", "no"}, {"(... ... x)", "", dots, "", "no"}, {"#(...)", "", dots, "", "#(...)"}, {"#(... x)", "", dots, "", "#(... x)"}, {"#(... ...)", "", dots, "", "no"}, {"#(... b ...)", "b* (1 2)", dots, "", "#(... 1 2)"}, {"(... . x)", "", dots, "", "(... . x)"}, {"(... x . y)", "", dots, "", "(... x . y)"}, {"(... ... . y)", "", dots, "", "no"}, {"(... . a)", "a (x)", dots, "", "(... x)"}, {"(... . a)", "a (... x)", dots, "", "(... ... x)"}, {"(x ... y)", "", dots, "", "no"}, {"((...) b ...)", "b* (1)", dots, "", "((...) 1)"}, {`("..." x)`, "", dots, "", `("..." x)`}, {`(a "...")`, "a 1", dots, "", `(1 "...")`}, {`(b "...")`, "b* (1)", dots, "", "no"}, {"...", "", dots, "", "..."}, {"...", "", dots, "... z", "z"},
		// What is put in is no template.
		{"(a ...)", "a ...", dots, "", "no"}, {"(a x)", "a ...", dots, "", "(... x)"}, {"(x a)", "a (... y)", dots, "", "(x (... y))"}, {"(b ...)", "b* (... x)", dots, "", "(... x)"}, {"(x a)", "a b b 1", dots, "", "(x b)"},
		// An ellipsis that is a variable.
		{"(x ...)", "... 1", dots, "", "(x 1)"}, {"(... ...)", "... 1", dots, "", "(1 1)"}, {"(... x)", "... 1", dots, "", "(1 x)"}, {"(b ...)", "b* (1 2) ... 3", dots, "", "no"}, {"(b ...)", "b 1 ... (3)", dots, "", "(1 (3))"}, {"...", "... 1", dots, "... z", "1"}, {"...", "...* (1)", dots, "", "no"}, {"(x ...)", "...* (1)", dots, "", "no"}, {"(x . ...)", "... (1)", dots, "", "(x 1)"},
		// Another ellipsis.
		{"(b etc)", "b* (1 2)", "etc", "", "(1 2)"}, {"(b etc etc)", "b** ((1) (2 3))", "etc", "", "(1 2 3)"}, {"(b ...)", "b 1", "etc", "", "(1 ...)"}, {"(b ...)", "b* (1 2)", "etc", "", "no"}, {"(b ... etc)", "b 1", "etc", "", "no"}, {"(... etc)", "...* (1 2)", "etc", "", "(1 2)"}, {"(etc etc)", "", "etc", "", "etc"}, {"(etc ...)", "", "etc", "", "..."}, {"(... etc)", "", "etc", "", "no"}, {"(... x)", "", "etc", "... y", "(y x)"}, {"(etc (b etc ...))", "b 1", "etc", "etc z", "(1 z ...)"}, {"(b etc2)", "b 1", "etc", "", "(1 etc2)"}, {"(b ...~1)", "b* (1 2)", "...~1", "", "(1 2)"}, {"(b ...~1)", "b 1", dots, "", "(1 ...~1)"}, {"(b ...)", "b 1", "...~1", "", "(1 ...)"}, {"(...~1 (b ...~1))", "b 1", "...~1", "", "(1 ...~1)"}, {"(b _)", "b* (1 2)", "_", "", "(1 2)"},
	} {
		gives(t, c.p, c.bounds, alias(c.dots), c.pairs, c.want)
	}
}

// Macros of the prelude, filled.
func TestPrelude(t *testing.T) {
	gives(t, "((lambda (v ...) b0 b ...) e ...)", "v* (x y) e* (1 (g 2)) b0 (h x) b* (y)", dots, "lambda lambda~1", "((lambda~1 (x y) (h x) y) 1 (g 2))")
	gives(t, "((letrec ((f (lambda (v ...) b0 b ...))) f) e ...)", "f loop v* () e* () b0 1 b* ()", dots, "letrec letrec~4", "((letrec~4 ((loop (lambda () 1))) loop))")
	gives(t, "((lambda () (define v e) ... (let () b0 b ...)))", "v* (x y) e* (1 2) b0 x b* (y)", dots, "let let~1 define define~2 lambda lambda~3", "((lambda~3 () (define~2 x 1) (define~2 y 2) (let~1 () x y)))")
	gives(t, "(let loop ((v i) ...) (if t (begin (if #f #f) r ...) (begin c ... (loop s ...))))", "v* (i) i* (0) s* ((+ i 1)) t (= i 3) r* () c* (i)", dots, "loop loop~7", "(let loop~7 ((i 0)) (if (= i 3) (begin (if #f #f)) (begin i (loop~7 (+ i 1)))))")
	gives(t, "(if (memv k '(d ...)) (begin b0 b ...) (case k r ...))", "k x d* (1 2) b0 y b* () r* ((else z))", dots, "", "(if (memv x '(1 2)) (begin y) (case x (else z)))")
}
