package nnf

import (
	"strings"

	"sortilege/api"
	"sortilege/prop"
)

// maker of one normal form.
type maker struct{ made int } // how many Formulas have come up

// form: N(f), or D(f), if not; it counts for nothing as soon as the maker is full.
func (m *maker) form(f prop.Formula, not bool) prop.Formula {
	// What a W has on its right side comes up twice, of such in one another more often
	// than can be waited for.
	if m.isFull() {
		return prop.Formula{}
	}
	left, right := sides(f)
	switch f.Op {
	case "true":
		return m.one(either(not, "true", "false"))
	case "false":
		return m.one(either(not, "false", "true"))
	case "label":
		return m.label(f.Name, not)
	case "!":
		return m.form(left, !not)
	case "X":
		return m.one("X", m.form(left, not))
	case "=>":
		// f => g is as !f | g.
		left = of("!", left)
		fallthrough
	case "|":
		return m.two(either(not, "|", "&"), left, right, not)
	case "&":
		return m.two(either(not, "&", "|"), left, right, not)
	case "G":
		// G f, which is as false R f, is so where F !f isn't.
		left, not = of("!", left), !not
		fallthrough
	case "F":
		// F f is as true U f.
		left, right = of("true"), left
		fallthrough
	case "U":
		return m.two(either(not, "U", "R"), left, right, not)
	case "W":
		// f W g is as g R (f | g).
		left, right = right, of("|", left, right)
		fallthrough
	case "R":
		return m.two(either(not, "R", "U"), left, right, not)
	}
	return prop.Formula{}
}

// isFull: have more Formulas come up than may?
func (m *maker) isFull() bool {
	return m.made > api.MaxSize
}

// one Formula more.
func (m *maker) one(op string, kids ...prop.Formula) prop.Formula {
	m.made++
	return of(op, kids...)
}

// two kids' forms, with an Op between.
func (m *maker) two(op string, left, right prop.Formula, not bool) prop.Formula {
	return m.one(op, m.form(left, not), m.form(right, not))
}

// label of that name, or ! of it.
func (m *maker) label(name string, not bool) prop.Formula {
	f := m.one("label")
	// A copy, so that no name that is told lies in what was handed in.
	f.Name = strings.Clone(name)
	if not {
		return m.one("!", f)
	}
	return f
}

// either of two Ops: that of what is so, or of what isn't.
func either(not bool, so, isnt string) string {
	if not {
		return isnt
	}
	return so
}

// sides: a formula's kids, without an Op where there is none.
func sides(f prop.Formula) (left, right prop.Formula) {
	if len(f.Kids) > 0 {
		left = f.Kids[0]
	}
	if len(f.Kids) > 1 {
		right = f.Kids[1]
	}
	return left, right
}

// of: a formula without a place.
func of(op string, kids ...prop.Formula) prop.Formula {
	return prop.Formula{Op: op, Kids: kids}
}
