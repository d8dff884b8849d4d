package fold

import (
	"sortilege/api"
	"sortilege/expr"
	"sortilege/model"
)

// The Ops that are asked for or made.
const (
	opNum   = "num"
	opName  = "name"
	opTrue  = "true"
	opFalse = "false"
)

// isName: is it a name?
//
// One with kids isn't, whatever its Op says: it is worth nothing, and stays so.
func isName(e expr.Expr) bool {
	return e.Op == opName && len(e.Kids) == 0
}

// names: those ahead, and behind them those of an expression, from left to
// right.
func names(ahead []expr.Expr, e expr.Expr) []expr.Expr {
	if isName(e) {
		return append(ahead, e)
	}
	for _, kid := range e.Kids {
		ahead = names(ahead, kid)
	}
	return ahead
}

// named is a name, and where it is given.
type named struct {
	name string
	pos  int
}

// checkNames: of the model, of its labels and of its modules each is there once.
func checkNames(m model.Model) error {
	if err := checkOnce(namesOf(m)); err != nil {
		return err
	}
	if err := checkOnce(each(m.Labels, ofDef)); err != nil {
		return err
	}
	return checkOnce(each(m.Modules, ofModule))
}

// namesOf: the names of a model.
func namesOf(m model.Model) []named {
	l := append(each(m.Consts, ofDef), each(m.Formulas, ofDef)...)
	for _, module := range m.Modules {
		l = append(l, each(module.Vars, ofVar)...)
	}
	return l
}

// ofDef: its name.
func ofDef(d model.Def) named {
	return named{d.Name, d.Pos}
}

// ofModule: its name.
func ofModule(m model.Module) named {
	return named{m.Name, m.Pos}
}

// ofVar: its name.
func ofVar(v model.Var) named {
	return named{v.Name, v.Pos}
}

// checkOnce: ErrName at the first one that was there before.
func checkOnce(l []named) error {
	times := map[string]int{}
	for _, n := range l {
		times[n.name]++
		if times[n.name] > 1 {
			return wrongAt(n.pos, api.ErrName)
		}
	}
	return nil
}
