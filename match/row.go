package match

import (
	"slices"

	"spindle/api"
	"spindle/datum"
)

// The parts of a row, and its tail.
const (
	front  = iota // items, from the beginning on
	middle        // of a pattern the item that an ellipsis stands behind, if there is one; of a datum all that it takes
	back          // items, up to the end
	tail          // of what has one
	parts         // how many there are
)

// row is what stands in a pattern, or in a datum that is laid out as the pattern is.
type row [parts][]api.Datum

// row is that of a pattern. An ellipsis that stands where it may not is left in it, as an item or the tail.
func (n names) row(p api.Datum) row {
	items, last := datum.Row(p)
	at := slices.IndexFunc(items, n.isEllipsis)
	if at < 1 {
		return row{front: items, tail: last}
	}
	return row{front: items[:at-1], middle: items[at-1 : at], back: items[at+1:], tail: last}
}

// lay is what stands in d, laid out as in the row of a pattern of that kind; false, if it can't be.
func (r row) lay(kind int, d api.Datum) (row, bool) {
	items, _ := datum.Row(d)
	first, last := len(r[front]), len(items)-len(r[back])
	if !takes(kind, d.Kind) || last < first {
		return row{}, false
	}
	if len(r[middle]) == 0 {
		last = first
	}
	end := last + len(r[back])
	laid := row{front: items[:first], middle: items[first:last], back: items[last:end]}
	if kind == api.DDot {
		laid[tail] = []api.Datum{datum.Behind(d, end)}
		return laid, true
	}
	return laid, end == len(items)
}

// takes tells whether a pattern's row of one kind may be matched by one of the other.
func takes(pattern, kind int) bool {
	return kind == pattern || pattern == api.DDot && kind == api.DList
}
