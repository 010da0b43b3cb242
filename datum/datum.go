// Package datum has what several layers do with data, right or not.
package datum

import (
	"slices"

	"spindle/api"
	"spindle/read"
)

// Copy: one like d that shares nothing with it.
func Copy(d api.Datum) api.Datum {
	return Rename(d, func(name string) string { return name })
}

// Rename: one like d that shares nothing with it, in which each name is what call says of it.
func Rename(d api.Datum, call func(name string) string) api.Datum {
	if d.Kind == api.DSym {
		d.Text = call(d.Text)
	}
	items := d.Items
	d.Items = slices.Grow([]api.Datum(nil), len(items))
	for _, item := range items {
		d.Items = append(d.Items, Rename(item, call))
	}
	return d
}

// Fits: has d at most api.MaxTerms parts, and at most api.MaxDepth data within one another?
func Fits(d api.Datum) bool {
	// Few parts are looked through soon, also where data are shared or go round.
	return read.Parts(d) <= api.MaxTerms && isWithin(d, api.MaxDepth)
}

// Quotable: is d what a term may quote: a right datum, nothing in particular, or no value yet?
func Quotable(d api.Datum) bool {
	if d.Kind == 0 && d.N == 1 {
		d.N = 0
	}
	return Nothing(d) || read.Check(d) == nil
}

// Nothing: are all fields of d zero?
func Nothing(d api.Datum) bool {
	return d.Kind == 0 && d.N == 0 && d.Text == "" && len(d.Items) == 0
}

// Row are the items of d's row, and its tail, if it has one. They are d's own.
func Row(d api.Datum) (items, tail []api.Datum) {
	n := len(d.Items)
	if d.Kind == api.DDot && n > 0 {
		n--
	}
	return d.Items[:n], d.Items[n:]
}

// Behind is what stands behind the first n items of d's row: its tail alone, where all its items are ahead. It is d's own.
func Behind(d api.Datum, n int) api.Datum {
	if d.Kind == api.DDot && n == len(d.Items)-1 {
		return d.Items[n]
	}
	return api.Datum{Kind: d.Kind, Items: d.Items[n:]}
}

// isWithin tells whether d has at most so many data within one another.
func isWithin(d api.Datum, most int) bool {
	if most == 0 {
		return false
	}
	for _, item := range d.Items {
		if !isWithin(item, most-1) {
			return false
		}
	}
	return true
}
