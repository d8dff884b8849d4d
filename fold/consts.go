package fold

import (
	"errors"

	"sortilege/api"
	"sortilege/expr"
	"sortilege/model"
	"sortilege/value"
)

// flat is an expression whose nodes lie in one list, the whole first.
//
// Each node has its number for a place, so that an error of value tells which
// one it is, whatever the places were.
type flat struct {
	nodes  []expr.Expr
	places []int // those that they had
}

// lay: an expression, flat.
func lay(e expr.Expr) flat {
	nodes := []expr.Expr{e}
	for i := 0; i < len(nodes); i++ {
		nodes = append(nodes, nodes[i].Kids...)
	}
	places := make([]int, len(nodes))
	kids := nodes[1:]
	for i, node := range nodes {
		places[i] = node.Pos
		nodes[i].Pos = i
		nodes[i].Kids = kids[:len(node.Kids)]
		kids = kids[len(node.Kids):]
	}
	return flat{nodes, places}
}

// fill: names whose values are known become these.
func (f flat) fill(values map[string]value.Value) {
	for i, node := range f.nodes {
		if !isName(node) {
			continue
		}
		if v, known := values[node.Name]; known {
			f.nodes[i] = literal(v, i)
		}
	}
}

// literal: an expression that is worth a value.
func literal(v value.Value, pos int) expr.Expr {
	switch {
	case !v.Truth:
		return expr.Expr{Op: opNum, N: v.N, Pos: pos}
	case v.Is:
		return expr.Expr{Op: opTrue, Pos: pos}
	}
	return expr.Expr{Op: opFalse, Pos: pos}
}

// constants are those of a model, with the values of those that are found out.
type constants struct {
	flats  map[string]flat
	values map[string]value.Value
}

// newConstants: none of them is found out.
func newConstants(l []model.Def) constants {
	c := constants{map[string]flat{}, map[string]value.Value{}}
	for _, d := range l {
		c.flats[d.Name] = lay(d.X)
	}
	return c
}

// ask: the first other constant whose value one asks for and that isn't known;
// nil if there is none: the value is kept then.
//
// value itself tells what is asked for: it is a name that isn't bound.
func (c constants) ask(name string) (*expr.Expr, error) {
	f := c.flats[name]
	f.fill(c.values)
	v, err := value.Eval(f.nodes[0], nil)
	var at *api.At
	if !errors.As(err, &at) {
		c.values[name] = v
		return nil, nil
	}
	fault := f.nodes[at.Pos]
	fault.Pos = f.places[at.Pos]
	if _, there := c.flats[fault.Name]; there && errors.Is(err, api.ErrName) {
		return &fault, nil
	}
	return nil, wrongAt(fault.Pos, at.Err)
}

// binds: constants to their values, in order.
func (c constants) binds(l []model.Def) []value.Bind {
	return each(l, func(d model.Def) value.Bind { return value.Bind{Name: d.Name, V: c.values[d.Name]} })
}
