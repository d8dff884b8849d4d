package fold

import (
	"sortilege/api"
	"sortilege/expr"
	"sortilege/model"
	"sortilege/value"
)

// The kinds of names: where one may be asked, those ahead of it may be, too.
const (
	kindConstant = iota
	kindFormula
	kindVariable
)

// meaning is what a name stands for.
type meaning struct {
	kind int
	// Of a constant its value, of a formula its expression.
	x expr.Expr
	// How many Exprs stand for the name; 0 of a formula that isn't expanded.
	size int
	// Of a formula that isn't expanded: the names in it that aren't looked at.
	rest []expr.Expr
}

// expander expands expressions. It keeps the first error, and expands nothing
// from then on.
type expander struct {
	meanings map[string]meaning
	err      error
}

// newExpander: no formula is expanded yet.
func newExpander(m model.Model, consts []value.Bind) *expander {
	x := &expander{meanings: map[string]meaning{}}
	for _, b := range consts {
		x.meanings[b.Name] = meaning{kind: kindConstant, x: literal(b.V, 0), size: 1}
	}
	for _, d := range m.Formulas {
		x.meanings[d.Name] = meaning{kind: kindFormula, x: d.X, rest: names(nil, d.X)}
	}
	for _, module := range m.Modules {
		for _, v := range module.Vars {
			x.meanings[v.Name] = meaning{kind: kindVariable, size: 1}
		}
	}
	return x
}

// formulas: expands all of them, in order.
func (x *expander) formulas(l []model.Def) {
	f := newFinder(x.ask)
	for _, d := range l {
		if x.err == nil {
			x.fail(f.find(d.Name))
		}
	}
}

// ask: the first other formula that one asks for and that isn't expanded; nil if
// there is none: this one is expanded then.
func (x *expander) ask(name string) (*expr.Expr, error) {
	f := x.meanings[name]
	for len(f.rest) > 0 {
		other := f.rest[0]
		m := x.look(other, kindVariable)
		if x.err != nil {
			return nil, x.err
		}
		if m.size == 0 {
			x.meanings[name] = f
			return &other, nil
		}
		f.rest = f.rest[1:]
	}
	whole := x.expand(f.x, kindVariable)
	x.meanings[name] = meaning{kind: kindFormula, x: whole, size: expr.Size(whole)}
	return nil, x.err
}

// expand: an expression in which names up to a kind may be asked.
func (x *expander) expand(e expr.Expr, may int) expr.Expr {
	if x.err == nil && x.size(e, may) > api.MaxSize {
		x.fail(wrongAt(e.Pos, api.ErrLong))
	}
	if x.err != nil {
		return expr.Expr{}
	}
	return x.put(e)
}

// size: how many Exprs it has when it is expanded, or some number that is too
// great; all its names are looked at, even so.
func (x *expander) size(e expr.Expr, may int) int {
	if isName(e) {
		return x.look(e, may).size
	}
	n := 1
	for _, kid := range e.Kids {
		n = min(n+x.size(kid, may), api.MaxSize+1)
	}
	return n
}

// look: what a name stands for, which must be of a kind that may be asked.
func (x *expander) look(name expr.Expr, may int) meaning {
	m, there := x.meanings[name.Name]
	if !there || m.kind > may {
		x.fail(wrongAt(name.Pos, api.ErrName))
		return meaning{}
	}
	return m
}

// put: an expression in new memory, with what its names stand for in their
// stead.
func (x *expander) put(e expr.Expr) expr.Expr {
	if isName(e) && x.meanings[e.Name].kind != kindVariable {
		// What stands for it has no names but variables.
		whole := x.put(x.meanings[e.Name].x)
		whole.Pos = e.Pos
		return whole
	}
	e.Kids = each(e.Kids, x.put)
	return e
}

// label: with its expression expanded.
func (x *expander) label(d model.Def) model.Def {
	d.X = x.expand(d.X, kindVariable)
	return d
}

// module: with all its expressions expanded.
func (x *expander) module(m model.Module) model.Module {
	m.Vars = each(m.Vars, x.variable)
	m.Commands = each(m.Commands, x.command)
	return m
}

// variable: with those of its expressions expanded that it has.
func (x *expander) variable(v model.Var) model.Var {
	done := model.Var{Name: v.Name, Bool: v.Bool, HasInit: v.HasInit, Pos: v.Pos}
	if !v.Bool {
		done.Low = x.expand(v.Low, kindConstant)
		done.High = x.expand(v.High, kindConstant)
	}
	if v.HasInit {
		done.Init = x.expand(v.Init, kindConstant)
	}
	return done
}

// command: with all its expressions expanded.
func (x *expander) command(c model.Command) model.Command {
	c.Guard = x.expand(c.Guard, kindVariable)
	c.Branches = each(c.Branches, x.branch)
	return c
}

// branch: with all its expressions expanded.
func (x *expander) branch(b model.Branch) model.Branch {
	b.Sets = each(b.Sets, x.set)
	return b
}

// set: with its expression expanded.
func (x *expander) set(s model.Set) model.Set {
	s.X = x.expand(s.X, kindVariable)
	return s
}

// fail: by an error, if it is one; the first one counts.
func (x *expander) fail(err error) {
	if x.err == nil {
		x.err = err
	}
}
