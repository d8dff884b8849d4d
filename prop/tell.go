package prop

// tell: the text with that of a formula behind it.
//
// Kids that it should have and hasn't are left out, those that it has above
// that, too.
func tell(text []byte, f Formula) []byte {
	if rankOf(f.Op) == rankAtom {
		return append(text, atomText(f)...)
	}
	for i, sign := range signs(f.Op) {
		text = append(text, sign...)
		if i < len(f.Kids) {
			text = tellKid(text, f.Kids[i], loosest(f.Op, i))
		}
	}
	return text
}

// tellKid: likewise, in parentheses if it is of a looser rank than may be.
func tellKid(text []byte, kid Formula, rank int) []byte {
	if rankOf(kid.Op) >= rank {
		return tell(text, kid)
	}
	return append(tell(append(text, '('), kid), ')')
}

// atomText: that of a formula that is read without kids.
func atomText(f Formula) string {
	if f.Op == opLabel {
		return `"` + f.Name + `"`
	}
	return f.Op
}

// signs: what stands ahead of each of a formula's kids.
func signs(op string) []string {
	switch op {
	case "!":
		return []string{"!"}
	case "X", "F", "G":
		return []string{op + " "}
	}
	return []string{"", " " + op + " "}
}

// loosest: the rank of the loosest one that is read as a kid at a place
// without parentheses.
func loosest(op string, place int) int {
	rank := rankOf(op)
	switch rank {
	case rankPrefix:
		return rank
	case rankImplication, rankUntil:
		// They stand to the right.
		return rank + 1 - place
	}
	return rank + place
}
