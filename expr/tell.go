package expr

import "strconv"

// tell: the text with that of an expression behind it.
//
// Kids that it should have and hasn't are left out, those that it has above
// that, too.
func tell(text []byte, e Expr) []byte {
	switch e.Op {
	case opNum:
		return strconv.AppendInt(text, e.N, 10)
	case opName:
		return append(text, e.Name...)
	}
	if rankOf(e.Op) == rankAtom {
		return append(text, e.Op...)
	}
	for i, sign := range signs(e.Op) {
		text = append(text, sign...)
		if i < len(e.Kids) {
			text = tellKid(text, e.Kids[i], loosest(e.Op, i))
		}
	}
	return text
}

// tellKid: likewise, in parentheses if it is of a looser rank than may be.
func tellKid(text []byte, kid Expr, rank int) []byte {
	if rankOf(kid.Op) >= rank {
		return tell(text, kid)
	}
	return append(tell(append(text, '('), kid), ')')
}

// signs: what stands ahead of each of an expression's kids.
func signs(op string) []string {
	switch rankOf(op) {
	case rankChoice:
		return []string{"", " ? ", " : "}
	case rankNegation:
		return []string{"!"}
	case rankMinus:
		return []string{"-"}
	}
	return []string{"", " " + op + " "}
}

// loosest: the rank of the loosest one that is read as a kid at a place
// without parentheses.
func loosest(op string, place int) int {
	rank := rankOf(op)
	switch rank {
	case rankNegation, rankMinus:
		return rank
	case rankComparison:
		return rank + 1
	case rankChoice, rankImplication:
		// They stand to the right.
		return rank + 1 - min(place, 1)
	}
	return rank + place
}
