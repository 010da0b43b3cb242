// Package word is layer 1: see shared/doc/01-word.md.
package word

import "spindle/api"

// The tags: a word's lowest three bits. The tag 7 is nobody's.
const (
	tagFix    = 0
	tagCell   = 1
	tagChar   = 2
	tagBool   = 3
	tagSole   = 4 // the words that stand for one value each
	tagSymbol = 5
	tagPrim   = 6

	tagBits = 3
	tagMask = 1<<tagBits - 1
)

// The kinds that Kind tells. Those of the tag tagSole stand in the order of their numbers.
const (
	kindNone   = 0
	kindFix    = 1
	kindCell   = 2
	kindChar   = 3
	kindBool   = 4
	kindNil    = 5
	kindVoid   = 6
	kindUndef  = 7
	kindSymbol = 8
	kindPrim   = 9
)

// The bounds of the numbers.
const (
	minFix  = -api.MaxFix - 1
	maxCell = 1 << 40
	maxByte = 255
)

// Fix: a number.
func Fix(n int) (uint64, error) {
	if !holds(tagFix, n) {
		return 0, api.ErrOverflow
	}
	return pack(tagFix, n), nil
}

// Cell: a cell of the heap.
func Cell(i int) (uint64, error) { return checked(tagCell, i) }

// Char: a character.
func Char(c int) (uint64, error) { return checked(tagChar, c) }

// Bool: true, or false.
func Bool(b bool) uint64 {
	if b {
		return pack(tagBool, 1)
	}
	return pack(tagBool, 0)
}

// Symbol: a symbol, by its number.
func Symbol(i int) (uint64, error) { return checked(tagSymbol, i) }

// Prim: a procedure of the system's, by its number.
func Prim(i int) (uint64, error) { return checked(tagPrim, i) }

// Nil: the empty list.
func Nil() uint64 { return sole(kindNil) }

// Void: nothing in particular.
func Void() uint64 { return sole(kindVoid) }

// Undef: a variable's value that has none yet.
func Undef() uint64 { return sole(kindUndef) }

// Kind: of which kind it is.
func Kind(w uint64) int {
	tag, n := w&tagMask, number(w)
	if !holds(tag, n) {
		return kindNone
	}
	switch tag {
	case tagFix:
		return kindFix
	case tagCell:
		return kindCell
	case tagChar:
		return kindChar
	case tagBool:
		return kindBool
	case tagSole:
		return kindNil + n
	case tagSymbol:
		return kindSymbol
	case tagPrim:
		return kindPrim
	}
	return kindNone
}

// Value: its number.
func Value(w uint64) int {
	if Kind(w) == kindNone {
		return 0
	}
	return number(w)
}

// True: does it count as true?
func True(w uint64) bool { return w != Bool(false) }

// holds tells whether a word of the tag may have the number n.
func holds(tag uint64, n int) bool {
	least, most := 0, -1
	switch tag {
	case tagFix:
		least, most = minFix, api.MaxFix
	case tagCell:
		most = maxCell
	case tagChar:
		fallthrough
	case tagPrim:
		most = maxByte
	case tagBool:
		most = 1
	case tagSole:
		most = kindUndef - kindNil
	case tagSymbol:
		most = api.MaxSymbols - 1
	}
	return least <= n && n <= most
}

// checked makes the word of the tag and the number n, if there is one.
func checked(tag uint64, n int) (uint64, error) {
	if !holds(tag, n) {
		return 0, api.ErrArg
	}
	return pack(tag, n), nil
}

// sole makes the one word of a kind that has no other.
func sole(kind int) uint64 { return pack(tagSole, kind-kindNil) }

// pack and number lose nothing of numbers of sixty-one bits with their sign; holds keeps all others away.
func pack(tag uint64, n int) uint64 { return uint64(n)<<tagBits | tag }

// number shifts a signed word, so that the sign comes down with the number.
func number(w uint64) int { return int(int64(w) >> tagBits) }
