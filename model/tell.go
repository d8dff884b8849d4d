package model

import (
	"strconv"
	"strings"

	"sortilege/expr"
)

// indent is what stands ahead of the lines within a module.
const indent = "  "

// line: a text with its end.
func line(s string) string {
	return s + "\n"
}

// tellAll: what is told of each item, with a text between.
func tellAll[T any](l []T, between string, tell func(x T) string) string {
	told := make([]string, len(l))
	for i, x := range l {
		told[i] = tell(x)
	}
	return strings.Join(told, between)
}

// tellConst: as a line.
func tellConst(d Def) string {
	return tellDef(wordConst, d.Name, d.X)
}

// tellFormula: as a line.
func tellFormula(d Def) string {
	return tellDef(wordFormula, d.Name, d.X)
}

// tellLabel: as a line.
func tellLabel(d Def) string {
	return tellDef(wordLabel, `"`+d.Name+`"`, d.X)
}

// tellDef: a word, a name and its meaning, as a line.
func tellDef(word, name string, x expr.Expr) string {
	return line(word + " " + name + " = " + expr.Print(x) + ";")
}

// tellModule: as lines.
func tellModule(m Module) string {
	return line(wordModule+" "+m.Name) +
		tellAll(m.Vars, "", tellVar) +
		tellAll(m.Commands, "", tellCommand) +
		line(wordEndmodule)
}

// tellVar: as a line.
func tellVar(v Var) string {
	s := indent + v.Name + " : " + tellValues(v)
	if v.HasInit {
		s += " " + wordInit + " " + expr.Print(v.Init)
	}
	return line(s + ";")
}

// tellValues: what a variable may be.
func tellValues(v Var) string {
	if v.Bool {
		return wordBool
	}
	return "[" + expr.Print(v.Low) + ".." + expr.Print(v.High) + "]"
}

// tellCommand: as a line.
func tellCommand(c Command) string {
	branches := tellAll(c.Branches, " + ", tellBranch)
	return line(indent + "[" + c.Action + "] " + expr.Print(c.Guard) + " -> " + branches + ";")
}

// tellBranch: with its weight.
func tellBranch(b Branch) string {
	what := wordTrue
	if len(b.Sets) > 0 {
		what = tellAll(b.Sets, " & ", tellSet)
	}
	return strconv.FormatInt(b.Weight, 10) + " : " + what
}

// tellSet: in its parentheses.
func tellSet(s Set) string {
	return "(" + s.Name + "' = " + expr.Print(s.X) + ")"
}
