package match

import "spindle/api"

// What a datum is in a pattern.
const (
	aVariable = iota
	anUnderscore
	anEllipsis
	aLiteral
	aRow
	aConstant
)

// names are those of a pattern that are no variables, and what each is.
type names map[string]int

// namesOf are a pattern's, by its literals and its ellipsis.
func namesOf(literals []string, dots string) names {
	n := names{"_": anUnderscore}
	// What is said later counts: dots that are a literal are no ellipsis.
	n[dots] = anEllipsis
	for _, name := range literals {
		n[name] = aLiteral
	}
	return n
}

// of is what p is in the pattern.
func (n names) of(p api.Datum) int {
	switch p.Kind {
	case api.DSym:
		return n[p.Text]
	case api.DList, api.DDot, api.DVec:
		return aRow
	}
	return aConstant
}

// isEllipsis tells whether p is the pattern's ellipsis.
func (n names) isEllipsis(p api.Datum) bool { return n.of(p) == anEllipsis }
