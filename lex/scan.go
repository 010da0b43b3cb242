package lex

import (
	"errors"
	"strings"

	"spindle/api"
	"spindle/fix"
)

const (
	dot        = "."
	charMark   = `#\`
	vectorMark = "#("
	spliceMark = ",@"
	lastBlank  = ' ' // a character that stands for itself is above it
)

// scan is the token that s begins with, behind its blanks. Next is how many bytes it has; places aren't known here.
func scan(s string) (api.Token, error) {
	switch {
	case s == "":
		return mark(api.TEnd, ""), nil
	case strings.HasPrefix(s, spliceMark):
		return mark(api.TSplice, spliceMark), nil
	case strings.HasPrefix(s, vectorMark):
		return mark(api.TVector, vectorMark), nil
	case strings.HasPrefix(s, charMark):
		return char(s)
	}
	switch s[0] {
	case '(':
		return mark(api.TOpen, "("), nil
	case ')':
		return mark(api.TClose, ")"), nil
	case '\'':
		return mark(api.TQuote, "'"), nil
	case '`':
		return mark(api.TQuasi, "`"), nil
	case ',':
		return mark(api.TComma, ","), nil
	case '"':
		return quoted(s)
	}
	return word(s[:wordEnd(s)])
}

// mark is a token of which nothing but its kind is told.
func mark(kind int, s string) api.Token { return api.Token{Kind: kind, Next: len(s)} }

// word is the token that a word is.
func word(w string) (api.Token, error) {
	switch w {
	case dot:
		return mark(api.TDot, w), nil
	case "#f":
		return api.Token{Kind: api.TBool, N: 0, Next: len(w)}, nil
	case "#t":
		return api.Token{Kind: api.TBool, N: 1, Next: len(w)}, nil
	}
	n, err := fix.Parse(w)
	switch {
	case err == nil:
		return api.Token{Kind: api.TInt, N: n, Next: len(w)}, nil
	case !errors.Is(err, api.ErrSyntax):
		return api.Token{}, err
	case !Symbol(w):
		return api.Token{}, api.ErrSyntax
	}
	// A piece of the text would keep all of it.
	return api.Token{Kind: api.TSym, Text: strings.Clone(w), Next: len(w)}, nil
}

// char is the token of a character, at whose mark s begins.
func char(s string) (api.Token, error) {
	s = s[len(charMark):]
	if s == "" {
		return api.Token{}, api.ErrSyntax
	}
	// The first byte is what it is, be it a delimiter.
	w := s[:1+wordEnd(s[1:])]
	c, ok := charOf(w)
	if !ok {
		return api.Token{}, api.ErrSyntax
	}
	return api.Token{Kind: api.TChar, N: c, Next: len(charMark) + len(w)}, nil
}

// charOf is the character that is called w.
func charOf(w string) (int, bool) {
	switch w {
	case "space":
		return ' ', true
	case "newline":
		return '\n', true
	case "tab":
		return '\t', true
	case "nul":
		return 0, true
	}
	if len(w) > 1 || w[0] <= lastBlank {
		return 0, false
	}
	return int(w[0]), true
}

// quoted is the token of a string, at whose mark s begins.
func quoted(s string) (api.Token, error) {
	var text []byte
	for i := 1; i < len(s); i++ {
		c := s[i]
		switch c {
		case '"':
			return stringOf(text, i+1)
		case '\\':
			i++
			if i == len(s) {
				return api.Token{}, api.ErrEnd
			}
			var ok bool
			if c, ok = escaped(s[i]); !ok {
				return api.Token{}, api.ErrSyntax
			}
			fallthrough
		default:
			// One byte too many tells that there are too many.
			if len(text) <= api.MaxString {
				text = append(text, c)
			}
		}
	}
	return api.Token{}, api.ErrEnd
}

// escaped is the byte that c is behind a backslash.
func escaped(c byte) (byte, bool) {
	switch c {
	case 'n':
		return '\n', true
	case 't':
		return '\t', true
	case '\\', '"':
		return c, true
	}
	return 0, false
}

// stringOf is the token of a string of these bytes, which took n bytes to write.
func stringOf(text []byte, n int) (api.Token, error) {
	if len(text) > api.MaxString {
		return api.Token{}, api.ErrLong
	}
	return api.Token{Kind: api.TStr, Text: string(text), Next: n}, nil
}
