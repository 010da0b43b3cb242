package expand_test

import (
	"slices"
	"strings"
	"testing"

	"spindle/api"
	"spindle/expand"
	"spindle/read"
)

// counting are macros: (down (x ..) (y ..) (z ..)) is used as often as is told by uses; (twice x ..) is a begin of all of them, twice; (nest x ..) are as many calls within one another.
const counting = `
(define-syntax down (syntax-rules ()
  ((_ () () ()) 1)
  ((_ (a x ...) y z) (down (x ...) y z))
  ((_ () (a y ...) z) (down (a a a a a a a a a a a a a a a) (y ...) z))
  ((_ () () (a z ...)) (down (a a a a a a a a a a a a a a a) (a a a a a a a a a a a a a a a) (z ...)))))
(define-syntax twice (syntax-rules () ((_ x ...) (begin x ... x ...))))
(define-syntax nest (syntax-rules () ((_) 1) ((_ x y ...) (f (nest y ...)))))
(define-syntax loop (syntax-rules () ((_) (loop))))`

// ones are n of them.
func ones(n int) string { return strings.Repeat(" 1", n) }

// uses is a form that uses so many macros.
func uses(n int) string {
	n--
	return "(down (" + ones(n%16) + ") (" + ones(n/16%16) + ") (" + ones(n/256) + "))"
}

// told is what comes of a text's last form behind the counting macros: an error, or "fine".
func told(text string) string {
	got := last(expand.New(), counting+text)
	if strings.HasPrefix(got, "error") {
		return got
	}
	return "fine"
}

// brief is as much of a text as may be told.
func brief(text string) string { return text[max(0, len(text)-200):] }

// 4000 macros are used, and no more, counted anew for each form.
func TestSteps(t *testing.T) {
	for n := api.MaxExpand - 2; n < api.MaxExpand+3; n++ {
		want := "fine"
		if n > api.MaxExpand {
			want = "error steps: down"
		}
		for _, text := range []string{uses(n), uses(n) + uses(n), "(begin " + uses(n/2) + uses(n-n/2) + ")", "(lambda () " + uses(n) + ")", "(f " + uses(9) + uses(n-9) + ")", "(define x " + uses(n) + ")", "(lambda () (define x " + uses(n-99) + ")" + uses(99) + ")", "(if " + uses(n-3) + " (let-syntax () " + uses(3) + "))"} {
			if got := told(text); got != want {
				t.Errorf("%d uses, %s: %s, want %s", n, brief(text), got, want)
			}
		}
	}
	// The one that is too much isn't even looked at; what stands ahead of it was.
	full := "(begin " + uses(api.MaxExpand)
	for text, want := range map[string]string{")": "fine", " 1)": "fine", uses(1) + ")": "error steps: down", " (let))": "error steps: let", " (let) (if))": "error steps: let", " (if) (let))": "error form: if", " (define-syntax m (syntax-rules () ((_) (m)))))": "fine", " (lambda () (loop)))": "error steps: loop"} {
		if got := told(full + text); got != want {
			t.Errorf("a full expansion and%s: %s, want %s", text, got, want)
		}
	}
	for text, want := range map[string]string{
		"(loop)": "error steps: loop", "(lambda () (loop))": "error steps: loop", "(f (or (loop)))": "error steps: loop",
		"(define-syntax m (syntax-rules () ((_) (let-syntax () (m))))) (m)": "error steps: m", "(define-syntax m (syntax-rules () ((_) (begin (begin) (m))))) (lambda () (m))": "error steps: m", "(define-syntax m (syntax-rules () ((_ x) (n x)))) (define-syntax n (syntax-rules () ((_ x) (m x)))) (m 1)": "error steps: m",
		"(define-syntax m (syntax-rules () ((_ x) (m (x))))) (m 1)": "error long: m", "(define-syntax m (syntax-rules () ((_ x ...) (m x ... x ...)))) (m 1)": "error long: m", "(define-syntax m (syntax-rules () ((_) (f (m))))) (m)": "error long: f", "(define-syntax m (syntax-rules () ((_) (begin (m) 1)))) (m)": "error steps: m",
		// So many forms within one another that make no term.
		"(define-syntax m (syntax-rules () ((_) " + strings.Repeat("(let-syntax () ", 40) + "(m)" + strings.Repeat(")", 40) + "))) (m)": "error steps: m", "(define-syntax m (syntax-rules () ((_) " + strings.Repeat("(letrec-syntax ((n (syntax-rules ()))) ", 3) + "(m)" + strings.Repeat(")", 3) + "))) (f (m))": "error steps: m", "(define-syntax m (syntax-rules () ((_) " + strings.Repeat("(begin (begin) ", 30) + "(m)" + strings.Repeat(")", 30) + "))) (lambda () (m))": "error steps: m",
	} {
		if got := told(text); got != want {
			t.Errorf("%s: %s, want %s", brief(text), got, want)
		}
	}
}

// 4000 terms are made, and no more, counted as they are begun, anew for each form.
func TestTerms(t *testing.T) {
	const twice = 990
	ahead := "(twice" + ones(twice) + ") (twice" + ones(twice) + ")"
	left := api.MaxTerms - 1 - 2*(1+2*twice)
	for n := left - 5; n < left+5; n++ {
		want := "fine"
		if n > left {
			want = "error long: begin"
		}
		for _, text := range []string{"(begin " + ahead + ones(n) + ")", "(begin " + ones(n) + ahead + ")"} {
			if got := told(text + text); got != want {
				t.Errorf("%d terms more: %s, want %s", n, got, want)
			}
		}
	}
	full := "(begin " + ahead + ones(left)
	for text, want := range map[string]string{
		" 1)": "error long: begin", " x)": "error long: begin", " (f x))": "error long: f", " 1 (if))": "error long: begin", " '(a b))": "error long: quote", " (begin))": "error long: begin", " (if 1 2))": "error long: if", " (lambda () 1))": "error long: lambda", " (let-syntax () 1))": "error long: let-syntax", " (set! x 1))": "error long: set!", " (define x 1))": "error long: define", " (define-syntax m (syntax-rules ())))": "error long: define-syntax",
	} {
		if got := told(full + text); got != want {
			t.Errorf("a full program and%s %s, want %s", text, got, want)
		}
	}
	// What one kind of term counts: it, and what is in it.
	for text, parts := range map[string]int{"x": 1, "'(a (b) c)": 1, "(if 1 2)": 3, "(if 1 2 3)": 4, "(lambda (x y) 1)": 2, "(set! x 1)": 2, "(define x 1)": 2, "(begin)": 1, "(begin 1)": 2, "(f 1)": 3, "(let-syntax () 1)": 1, "(let-syntax () 1 2)": 3, "(define-syntax m (syntax-rules ()))": 1, "(lambda () (define x 1) (define (y) 2) 3)": 12, "(lambda () (begin 1))": 2} {
		for _, n := range []int{left - parts, left - parts + 1} {
			want := "fine"
			if n+parts > left {
				want = "error long"
			}
			if got := told("(begin " + ahead + ones(n) + " " + text + ")"); !strings.HasPrefix(got, want) {
				t.Errorf("%d terms and %s: %s, want %s", n, text, got, want)
			}
		}
	}
	// Names at the top mean by then what was said ahead.
	for text, want := range map[string]string{" (define or 1)) (or)": "(or)", " 1 (define or 1)) (or)": "(quote #f)", " (define-syntax or (syntax-rules () ((_) 5)))) (or)": "(quote 5)", " 1 (define-syntax or (syntax-rules () ((_) 5)))) (or)": "(quote #f)"} {
		if got := last(expand.New(), counting+full+text); got != want {
			t.Errorf("a full program and%s: %s, want %s", text, got, want)
		}
	}
}

// At most 200 terms within one another, asked of what came.
func TestDepth(t *testing.T) {
	for n := 190; n < 210; n++ {
		want := "fine"
		if n+1 > 200 {
			want = "error long"
		}
		if got := told("(nest" + ones(n) + ")"); got != want {
			t.Errorf("%d calls within one another: %s, want %s", n, got, want)
		}
		if got := told("(begin (nest" + ones(n) + ") (if))"); got != "error form: if" {
			t.Errorf("%d calls within one another, and an error: %s", n, got)
		}
	}
	// What is refused that late has said what it says at the top.
	if got := last(expand.New(), counting+"(begin (define or 1) (nest"+ones(300)+")) (or)"); got != "(or)" {
		t.Errorf("(or): %s", got)
	}
	// Data may be as deep as they are right.
	for n := 2; n < 70; n++ {
		p, e := expand.New().Expand(api.Datum{Kind: api.DVec, Items: []api.Datum{nested(n - 1)}})
		if (e != nil) != (n > api.MaxDepth) || e == nil && p.Kind != api.CQuote {
			t.Errorf("a vector of %d data within one another: %v", n, e)
		}
	}
}

// The table has room for 2^16 aliases; what needs none is expanded beyond that, too.
func TestAliases(t *testing.T) {
	const brought = 901
	s := expand.New()
	last(s, "(define-syntax m (syntax-rules () ((_) '("+names("n", brought-1)+"))))")
	use := data("(m)")[0]
	for n := range 1<<16/brought + 1 {
		got := said(s.Expand(use))
		if full := n == 1<<16/brought; full != (got == "error long: m") || !full && !strings.HasPrefix(got, "(quote (n0 n1") {
			t.Fatalf("use %d: %.40s", n, got)
		}
	}
	for _, c := range (pairs{{"(m)", "error long: m"}, {"(f (or 1 2))", "error long: or"}, {"(lambda () (let ((x 1)) x))", "error long: let"}, {"(or 1)", "(quote 1)"}, {"(lambda (x) x)", "(lambda (.1) .1)"}, {"(define or 1)", "(define or (quote 1))"}}) {
		if got := last(s, c.text); got != c.want {
			t.Errorf("%s without room: %s, want %s", c.text, got, c.want)
		}
	}
}

// The table has room for 2^16 places; what binds no name is expanded beyond that, too.
func TestPlaces(t *testing.T) {
	for _, bind := range []struct {
		about, text string
		places      int
	}{{"lambda", "(lambda (" + names("p", 24) + ") 1)", 24}, {"define", "(lambda () (define (x) 1) 1)", 1}, {"let-syntax", "(let-syntax (" + strings.Repeat("(m (syntax-rules ()))", 20) + ") 1)", 20}, {"define-syntax", "(lambda () (define-syntax m (syntax-rules ())) 1)", 1}} {
		s := expand.New()
		one := data(bind.text)[0]
		times := 3900 / read.Parts(one)
		all := api.Datum{Kind: api.DList, Items: append(data("begin"), slices.Repeat([]api.Datum{one}, times)...)}
		for n := range 1 << 16 / (bind.places * times) {
			if got := said(s.Expand(all)); strings.HasPrefix(got, "error") {
				t.Fatalf("%s, time %d: %s", brief(bind.text), n, got)
			}
		}
		if got := said(s.Expand(all)); got != "error long: "+bind.about {
			t.Fatalf("%s: %s", brief(bind.text), brief(got))
		}
		for _, c := range (pairs{{"(lambda (x) x)", "error long: lambda"}, {"(lambda x x)", "error long: lambda"}, {"(lambda () 1)", "(lambda () (quote 1))"}, {"(f (or 1))", "(f (quote 1))"}, {"(lambda () (define x 1) x)", "error long: define"}, {"(let-syntax ((m (syntax-rules ()))) 1)", "error long: let-syntax"}, {"(letrec-syntax ((m (syntax-rules ()))) 1)", "error long: letrec-syntax"}, {"(lambda () (define-syntax m (syntax-rules ())) 1)", "error long: define-syntax"}, {"(let-syntax () 1)", "(quote 1)"}, {"(or 1 2)", "error long: lambda"}, {"(define or 1)", "(define or (quote 1))"}}) {
			if got := last(s, c.text); got != c.want {
				t.Errorf("%s without room: %s, want %s", c.text, got, c.want)
			}
		}
	}
}

// sameData tells whether two data are alike in all fields.
func sameData(a, b api.Datum) bool {
	return a.Kind == b.Kind && a.N == b.N && a.Text == b.Text && slices.EqualFunc(a.Items, b.Items, sameData)
}

// roomy is d with spare room in all its lists, in which marks stand.
func roomy(d api.Datum) api.Datum {
	items := make([]api.Datum, len(d.Items), len(d.Items)+2)
	for i, item := range d.Items {
		items[i] = roomy(item)
	}
	for i := range items[len(items):cap(items)] {
		items[:cap(items)][len(items)+i].Text = "spare"
	}
	d.Items = items
	return d
}

// isSpared tells whether all spare room of d is as roomy left it.
func isSpared(d api.Datum) bool {
	for _, item := range d.Items[len(d.Items):cap(d.Items)] {
		if item.Text != "spare" {
			return false
		}
	}
	return !slices.ContainsFunc(d.Items, func(d api.Datum) bool { return !isSpared(d) })
}

// spoil puts other things into all lists of d.
func spoil(d api.Datum) {
	for _, item := range d.Items {
		spoil(item)
	}
	for i := range d.Items {
		d.Items[i] = api.Datum{Kind: api.DSym, Text: "spoilt"}
	}
}

// spoilTerm puts other things into all lists of t.
func spoilTerm(t api.Term) {
	spoil(t.Data)
	for i := range t.Params {
		t.Params[i] = -1
	}
	for i, kid := range t.Kids {
		spoilTerm(kid)
		t.Kids[i] = api.Term{}
	}
}

// What is handed in stays as it is, and isn't kept; what is answered is new each time, and shares no lists within.
func TestMemory(t *testing.T) {
	s := expand.New()
	for i, text := range []string{
		"(define-syntax m (syntax-rules ooo (q w) ((_ q x ooo) '(a x ooo #(b) . c)) ((_ x) (let ((y (x))) y '(x x)))))", "(m q 1 (2) 3)", "(m (f a))", "(lambda (x y . z) (define u '(a (b))) (let-syntax ((n (syntax-rules () ((_ v) (f v v))))) (n #(a (b)))))",
		"(begin (define (f x) (cond (x => y) (else '(a #(b))))) `(a (b ,c)) '((a) (a)))", "(if '(a) ())",
	} {
		one := data(text)[0]
		d := roomy(one)
		p, e := s.Expand(d)
		if !sameData(d, one) || !isSpared(d) {
			t.Errorf("%d: what was handed in has changed", i)
		}
		want := said(p, e)
		spoil(d)
		if got := said(p, e); got != want {
			t.Errorf("%d: the answer changes with what was handed in: %s, want %s", i, got, want)
		}
		other, e := s.Expand(one)
		spoilTerm(p)
		again, f := s.Expand(one)
		if got := said(other, e); got != want || said(again, f) != want {
			t.Errorf("%d: the answer changes with another one: %s, want %s", i, got, want)
		}
	}
	for text, want := range map[string]string{"(m q 1 (2) 3)": "(quote (a 1 (2) 3 #(b) . c))", "(m f)": "((lambda (.1) (begin .1 (quote (f f)))) (f))"} {
		if got := last(s, text); got != want {
			t.Errorf("%s: %s, want %s", text, got, want)
		}
	}
	p, _ := s.Expand(data("(let ((x '(a (b)))) (define-syntax m (syntax-rules () ((_ y) (f 'y 'y (lambda (z) y) (lambda (z) z))))) (define w 1) (m #(a (b))))")[0])
	met := map[any]int{}
	meetTerm(p, met)
	if len(met) < 15 {
		t.Errorf("%d lists in %s", len(met), said(p, nil))
	}
	for _, n := range met {
		if n > 1 {
			t.Errorf("a list stands in %s %d times", said(p, nil), n)
		}
	}
}

// meetTerm counts how often each list stands in a term.
func meetTerm(t api.Term, met map[any]int) {
	meetData(t.Data, met)
	if len(t.Params) > 0 {
		met[&t.Params[0]]++
	}
	if len(t.Kids) > 0 {
		met[&t.Kids[0]]++
	}
	for _, kid := range t.Kids {
		meetTerm(kid, met)
	}
}

// meetData counts how often each list stands in a datum.
func meetData(d api.Datum, met map[any]int) {
	if len(d.Items) > 0 {
		met[&d.Items[0]]++
	}
	for _, item := range d.Items {
		meetData(item, met)
	}
}
