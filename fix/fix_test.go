package fix_test

import (
	"errors"
	"math/big"
	"strings"
	"testing"

	"spindle/api"
	"spindle/fix"
)

const (
	minFix = -1 << 60
	maxFix = 1<<60 - 1
	minInt = -1 << 63
	maxInt = 1<<63 - 1
)

// call is one of the calls of two numbers, and the chapter's own rule for it, without bounds.
type call struct {
	name  string
	do    func(a, b int) (int, error)
	rule  func(a, b *big.Int) *big.Int
	parts bool // it divides
}

func calls() []call {
	two := func(f func(z, a, b *big.Int) *big.Int) func(a, b *big.Int) *big.Int {
		return func(a, b *big.Int) *big.Int { return f(new(big.Int), a, b) }
	}
	return []call{
		{"Add", fix.Add, two((*big.Int).Add), false},
		{"Sub", fix.Sub, two((*big.Int).Sub), false},
		{"Mul", fix.Mul, two((*big.Int).Mul), false},
		{"Quotient", fix.Quotient, two((*big.Int).Quo), true},
		{"Remainder", fix.Remainder, two((*big.Int).Rem), true},
		{"Modulo", fix.Modulo, floorMod, true},
	}
}

// floorMod is the number from 0 up to b, or from b up to 0, that differs from a by a multiple of b.
func floorMod(a, b *big.Int) *big.Int {
	m := new(big.Int).Mod(a, b) // 0 or above, whatever b's sign
	if m.Sign() != 0 && b.Sign() < 0 {
		m.Add(m, b)
	}
	return m
}

func isNumber(n int) bool { return n >= minFix && n <= maxFix }

// expected is what the chapter says of a call.
func expected(c call, a, b int) (int, error) {
	if !isNumber(a) || !isNumber(b) {
		return 0, api.ErrArg
	}
	if c.parts && b == 0 {
		return 0, api.ErrDivide
	}
	z := c.rule(big.NewInt(int64(a)), big.NewInt(int64(b)))
	if !z.IsInt64() || !isNumber(int(z.Int64())) {
		return 0, api.ErrOverflow
	}
	return int(z.Int64()), nil
}

// check holds a call against the chapter.
func check(t *testing.T, c call, a, b int) {
	t.Helper()
	n, e := c.do(a, b)
	want, fault := expected(c, a, b)
	if n != want || !errors.Is(e, fault) {
		t.Errorf("%s(%d, %d) = %d, %v; want %d, %v", c.name, a, b, n, e, want, fault)
	}
}

// edges are ints about every bound of numbers, of their products and of ints, and some between.
func edges() []int {
	var l []int
	for _, n := range []int{minInt, -1 << 62, -1 << 61, minFix, -1 << 59, -1 << 40, -1 << 32, -1 << 31, -1 << 30, -1000, 0, 7, 1000, 1 << 29, 1 << 30, 1 << 31, 1 << 32, 1 << 33, 1 << 40, 1 << 58, 1 << 59, maxFix, 1 << 61, 1 << 62, maxInt} {
		for d := -3; d <= 3; d++ {
			if (d < 0 && n < minInt-d) || (d > 0 && n > maxInt-d) {
				continue
			}
			l = append(l, n+d)
		}
	}
	return l
}

// scattered are ints all over the sixty-four bits, large and small ones.
func scattered(count int) []int {
	var l []int
	w := uint64(20)
	for range count {
		w = w*6364136223846793005 + 1442695040888963407
		l = append(l, int(int64(w)>>(w>>8%61)))
	}
	return l
}

// P2.1: answers that are known.
func TestKnownAnswers(t *testing.T) {
	for _, c := range []struct {
		name string
		do   func(a, b int) (int, error)
		a, b int
		want int
	}{
		{"Add", fix.Add, 2, 3, 5},
		{"Add", fix.Add, maxFix, minFix, -1},
		{"Add", fix.Add, maxFix - 1, 1, maxFix},
		{"Add", fix.Add, minFix + 1, -1, minFix},
		{"Sub", fix.Sub, 2, 3, -1},
		{"Sub", fix.Sub, -1, maxFix, minFix},
		{"Sub", fix.Sub, -1, minFix, maxFix},
		{"Mul", fix.Mul, -4, 5, -20},
		{"Mul", fix.Mul, 0, minFix, 0},
		{"Mul", fix.Mul, minFix, 1, minFix},
		{"Mul", fix.Mul, 1 << 30, -1 << 30, minFix},
		{"Mul", fix.Mul, maxFix, -1, -maxFix},
		{"Quotient", fix.Quotient, 7, 2, 3},
		{"Quotient", fix.Quotient, -7, 2, -3},
		{"Quotient", fix.Quotient, 7, -2, -3},
		{"Quotient", fix.Quotient, -7, -2, 3},
		{"Quotient", fix.Quotient, minFix, 1, minFix},
		{"Quotient", fix.Quotient, maxFix, -1, -maxFix},
		{"Quotient", fix.Quotient, 0, -5, 0},
		{"Remainder", fix.Remainder, 7, 2, 1},
		{"Remainder", fix.Remainder, -7, 2, -1},
		{"Remainder", fix.Remainder, 7, -2, 1},
		{"Remainder", fix.Remainder, -7, -2, -1},
		{"Remainder", fix.Remainder, minFix, -1, 0},
		{"Remainder", fix.Remainder, 3, minFix, 3},
		{"Modulo", fix.Modulo, 7, 2, 1},
		{"Modulo", fix.Modulo, -7, 2, 1},
		{"Modulo", fix.Modulo, 7, -2, -1},
		{"Modulo", fix.Modulo, -7, -2, -1},
		{"Modulo", fix.Modulo, 6, -2, 0},
		{"Modulo", fix.Modulo, -6, 2, 0},
		{"Modulo", fix.Modulo, minFix, -1, 0},
		{"Modulo", fix.Modulo, minFix, maxFix, maxFix - 1},
		{"Modulo", fix.Modulo, maxFix, minFix, -1},
		{"Modulo", fix.Modulo, 1, minFix, minFix + 1},
		{"Modulo", fix.Modulo, -1, maxFix, maxFix - 1},
	} {
		if n, e := c.do(c.a, c.b); n != c.want || e != nil {
			t.Errorf("%s(%d, %d) = %d, %v; want %d", c.name, c.a, c.b, n, e, c.want)
		}
	}
}

// P2.1: the errors, and which of them comes first.
func TestKnownErrors(t *testing.T) {
	for _, c := range []struct {
		name string
		do   func(a, b int) (int, error)
		a, b int
		want api.Kind
	}{
		{"Add", fix.Add, maxFix, 1, api.ErrOverflow},
		{"Add", fix.Add, minFix, -1, api.ErrOverflow},
		{"Add", fix.Add, minFix, minFix, api.ErrOverflow},
		{"Add", fix.Add, maxFix + 1, -1, api.ErrArg},
		{"Add", fix.Add, -1, maxFix + 1, api.ErrArg},
		{"Sub", fix.Sub, minFix, 1, api.ErrOverflow},
		{"Sub", fix.Sub, 0, minFix, api.ErrOverflow},
		{"Sub", fix.Sub, maxFix, minFix, api.ErrOverflow},
		{"Sub", fix.Sub, minFix - 1, minFix - 1, api.ErrArg},
		{"Mul", fix.Mul, 1 << 30, 1 << 30, api.ErrOverflow},
		{"Mul", fix.Mul, minFix, -1, api.ErrOverflow},
		{"Mul", fix.Mul, minFix, minFix, api.ErrOverflow},
		{"Mul", fix.Mul, 1 << 32, 1 << 32, api.ErrOverflow},   // 2^64: nothing of it is left in 64 bits
		{"Mul", fix.Mul, 1<<32 + 1, 1 << 32, api.ErrOverflow}, // a number is left of it in 64 bits
		{"Mul", fix.Mul, 0, maxFix + 1, api.ErrArg},
		{"Mul", fix.Mul, minInt, -1, api.ErrArg},
		{"Quotient", fix.Quotient, minFix, -1, api.ErrOverflow},
		{"Quotient", fix.Quotient, 1, 0, api.ErrDivide},
		{"Quotient", fix.Quotient, 0, 0, api.ErrDivide},
		{"Quotient", fix.Quotient, maxFix + 1, 0, api.ErrArg},
		{"Quotient", fix.Quotient, minInt, -1, api.ErrArg},
		{"Quotient", fix.Quotient, 1, maxInt, api.ErrArg},
		{"Remainder", fix.Remainder, minFix, 0, api.ErrDivide},
		{"Remainder", fix.Remainder, minFix - 1, 0, api.ErrArg},
		{"Remainder", fix.Remainder, 1, minFix - 1, api.ErrArg},
		{"Modulo", fix.Modulo, 5, 0, api.ErrDivide},
		{"Modulo", fix.Modulo, maxInt, 0, api.ErrArg},
		{"Modulo", fix.Modulo, 1, minInt, api.ErrArg},
	} {
		if n, e := c.do(c.a, c.b); n != 0 || !errors.Is(e, c.want) {
			t.Errorf("%s(%d, %d) = %d, %v; want 0, %v", c.name, c.a, c.b, n, e, c.want)
		}
	}
}

// P2.1: every call at every pair of bounds, on both sides of them.
func TestCallsAtBounds(t *testing.T) {
	for _, c := range calls() {
		for _, a := range edges() {
			for _, b := range edges() {
				check(t, c, a, b)
			}
		}
	}
}

// P2.1: every call of every pair of small numbers, of all signs.
func TestCallsOfSmallNumbers(t *testing.T) {
	for _, c := range calls() {
		for a := -40; a <= 40; a++ {
			for b := -40; b <= 40; b++ {
				check(t, c, a, b)
			}
		}
	}
}

// P2.1: numbers all over the bits.
func TestCallsOfScatteredNumbers(t *testing.T) {
	numbers := scattered(300)
	for _, c := range calls() {
		for _, a := range numbers {
			for _, b := range numbers {
				check(t, c, a, b)
			}
		}
	}
}

// P2.1: products about the bound, and about those of 64 bits: what is a whole part of a bound, and one more or less.
func TestProductsAboutTheBound(t *testing.T) {
	mul := calls()[2]
	for _, n := range append(scattered(2000), edges()...) {
		if n == 0 || !isNumber(n) {
			continue
		}
		for _, bound := range []int{maxFix, minFix, maxInt, minInt} {
			for d := -2; d <= 2; d++ {
				check(t, mul, n, bound/n+d)
			}
		}
	}
}

// P2.2: texts of ints, of those too that are no numbers.
func TestText(t *testing.T) {
	for _, c := range []struct {
		n    int
		want string
	}{
		{0, "0"}, {7, "7"}, {-7, "-7"}, {10, "10"}, {-100, "-100"}, {1234567890, "1234567890"},
		{maxFix, "1152921504606846975"}, {minFix, "-1152921504606846976"},
		{maxFix + 1, "1152921504606846976"}, {minFix - 1, "-1152921504606846977"},
		{maxInt, "9223372036854775807"}, {minInt, "-9223372036854775808"},
	} {
		if s := fix.Text(c.n); s != c.want {
			t.Errorf("Text(%d) = %q; want %q", c.n, s, c.want)
		}
	}
	for _, n := range append(scattered(2000), edges()...) {
		if s, want := fix.Text(n), big.NewInt(int64(n)).String(); s != want {
			t.Errorf("Text(%d) = %q; want %q", n, s, want)
		}
	}
}

// P2.2: texts that are numbers.
func TestParse(t *testing.T) {
	noughts := func(n int) string { return strings.Repeat("0", n) }
	for _, c := range []struct {
		s    string
		want int
	}{
		{"0", 0}, {"-0", 0}, {"+0", 0}, {"000", 0}, {"7", 7}, {"+007", 7}, {"-007", -7}, {"9", 9}, {"10", 10}, {"-1234567890", -1234567890},
		{"1152921504606846975", maxFix}, {"+1152921504606846975", maxFix}, {"-1152921504606846975", -maxFix},
		{"-1152921504606846976", minFix}, {"-1152921504606846970", minFix + 6}, {"1152921504606846969", maxFix - 6},
		{noughts(30), 0}, {"-" + noughts(30), 0}, {noughts(29) + "1", 1}, {"-" + noughts(29) + "9", -9},
		{noughts(11) + "1152921504606846975", maxFix}, {"+" + noughts(11) + "1152921504606846975", maxFix},
		{"-" + noughts(11) + "1152921504606846976", minFix},
	} {
		if n, e := fix.Parse(c.s); n != c.want || e != nil {
			t.Errorf("Parse(%q) = %d, %v; want %d", c.s, n, e, c.want)
		}
	}
}

// P2.2: texts that aren't: what they are made of comes before what they come to.
func TestParseErrors(t *testing.T) {
	nines := func(n int) string { return strings.Repeat("9", n) }
	noughts := func(n int) string { return strings.Repeat("0", n) }
	for _, c := range []struct {
		want  api.Kind
		texts []string
	}{
		{api.ErrSyntax, []string{
			"", "-", "+", "--1", "++1", "+-1", "-+1", "1-", "1+", "+1+", " 1", "1 ", "1\n", "\x001", "1\x00", "- 1", "x", "1x", "x1", "1x1",
			"0x10", "1_000", "1e3", "1.0", ".", "/", ":", "1/", "1:", "/1", ":1", "\xb1", "1\xff", "１", "٣", "−1", "#1", "(1)",
			nines(31), noughts(31), "-" + noughts(31), "+" + noughts(30) + "1", nines(1000), "-" + noughts(5000),
			nines(20) + "x", nines(29) + "-", "x" + nines(25), "-" + nines(30) + " ", "1152921504606846976x",
		}},
		{api.ErrOverflow, []string{
			"1152921504606846976", "+1152921504606846976", "-1152921504606846977", "1152921504606846980", "-1152921504606846980",
			"9223372036854775807", "9223372036854775808", "-9223372036854775808", "-9223372036854775809",
			"18446744073709551616", "18446744073709551617", "-18446744073709551617", "36893488147419103233",
			"10000000000000000000", nines(30), "+" + nines(30), "-" + nines(30), "1" + noughts(29), "-1" + noughts(29),
			noughts(11) + "1152921504606846976", "-" + noughts(11) + "1152921504606846977",
			"340282366920938463463374607432", "-184467440737095516160000000001",
		}},
	} {
		for _, s := range c.texts {
			if n, e := fix.Parse(s); n != 0 || !errors.Is(e, c.want) {
				t.Errorf("Parse(%q) = %d, %v; want 0, %v", s, n, e, c.want)
			}
		}
	}
}

// P2.2: each byte alone, and ahead of, behind and amid digits.
func TestParseEveryByte(t *testing.T) {
	for i := range 256 {
		c := string([]byte{byte(i)})
		digit := i >= '0' && i <= '9'
		for _, x := range []struct {
			s  string
			ok bool
		}{
			{c, digit}, {c + "5", digit || c == "+" || c == "-"}, {"5" + c, digit}, {"5" + c + "5", digit}, {"-" + c, digit}, {"+5" + c, digit},
		} {
			_, e := fix.Parse(x.s)
			if x.ok != (e == nil) || (!x.ok && !errors.Is(e, api.ErrSyntax)) {
				t.Errorf("Parse(%q): %v; a number: %v", x.s, e, x.ok)
			}
		}
	}
}

// P2.3: Quotient times b and Remainder together are a, and what is left is less than b and has no sign but a's.
func TestDivisionsComeTogether(t *testing.T) {
	numbers := append(scattered(200), edges()...)
	for _, a := range numbers {
		for _, b := range numbers {
			q, e := fix.Quotient(a, b)
			if e != nil {
				continue
			}
			r, e := fix.Remainder(a, b)
			if e != nil || (r != 0 && (r < 0) != (a < 0)) || (r < 0 && r <= -max(b, -b)) || (r > 0 && r >= max(b, -b)) {
				t.Errorf("Remainder(%d, %d) = %d, %v", a, b, r, e)
			}
			p, e := fix.Mul(q, b)
			if e != nil {
				t.Errorf("Mul(%d, %d): %v", q, b, e)
			}
			if n, e := fix.Add(p, r); n != a || e != nil {
				t.Errorf("%d by %d: %d times it and %d together are %d, %v", a, b, q, r, n, e)
			}
		}
	}
}

// P2.3: what Text writes is parsed again, with more noughts too, and is no number only of an int that is none.
func TestTextIsParsedAgain(t *testing.T) {
	for _, n := range append(scattered(5000), edges()...) {
		s := fix.Text(n)
		got, e := fix.Parse(s)
		if isNumber(n) && (got != n || e != nil) {
			t.Errorf("Parse(%q) = %d, %v", s, got, e)
		}
		if !isNumber(n) && (got != 0 || !errors.Is(e, api.ErrOverflow)) {
			t.Errorf("Parse(%q) = %d, %v; want ErrOverflow", s, got, e)
		}
		if isNumber(n) && n >= 0 {
			if got, e := fix.Parse("+00" + s); got != n || e != nil {
				t.Errorf("Parse(%q) = %d, %v", "+00"+s, got, e)
			}
		}
	}
}
