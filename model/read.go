package model

import (
	"sortilege/api"
	"sortilege/expr"
	"sortilege/scan"
)

// The kinds of scan's tokens that are asked for.
const (
	kindEnd   = 0
	kindName  = 1
	kindLabel = 3
)

// noWeight is the weight of a branch that tells none.
const noWeight = 1

// reader reads a model token by token.
//
// At the first error it lets go of its tokens. From then on it is at an end,
// where nothing can be read, so that only the whole asks for the error.
type reader struct {
	tokens *scan.Reader
	depth  int
	err    error
}

// list: one with all that is read behind it, as long as there is another one.
func list[T any](l []T, another func() bool, read func() T) []T {
	for another() {
		l = append(l, read())
	}
	return l
}

// model: mdp and items, up to the end.
func (r *reader) model() Model {
	var m Model
	r.want(wordMdp)
	for r.tokens.Peek().Kind != kindEnd {
		r.items(&m)
	}
	return m
}

// items of one kind, as many as stand there.
func (r *reader) items(m *Model) {
	switch {
	case r.tokens.Is(wordConst):
		m.Consts = list(m.Consts, r.skips(wordConst), r.definition)
	case r.tokens.Is(wordFormula):
		m.Formulas = list(m.Formulas, r.skips(wordFormula), r.definition)
	case r.tokens.Is(wordLabel):
		m.Labels = list(m.Labels, r.skips(wordLabel), r.label)
	case r.tokens.Is(wordModule):
		m.Modules = list(m.Modules, r.skips(wordModule), r.module)
	default:
		r.refuse()
	}
}

// definition: NAME = e ;
func (r *reader) definition() Def {
	name, pos := r.name()
	return Def{Name: name, X: r.meaning(), Pos: pos}
}

// label: "text" = e ;
func (r *reader) label() Def {
	text, pos := r.text()
	return Def{Name: text, X: r.meaning(), Pos: pos}
}

// meaning: = e ;
func (r *reader) meaning() expr.Expr {
	r.want("=")
	e := r.expression()
	r.want(";")
	return e
}

// module: NAME, variables, commands, endmodule.
func (r *reader) module() Module {
	name, pos := r.name()
	m := Module{Name: name, Pos: pos}
	m.Vars = list(m.Vars, r.isName, r.variable)
	m.Commands = list(m.Commands, r.isCommand, r.command)
	r.want(wordEndmodule)
	return m
}

// variable: NAME : what it may be, what it begins with, and ;
func (r *reader) variable() Var {
	name, pos := r.name()
	v := Var{Name: name, Pos: pos}
	r.want(":")
	if r.tokens.Skip(wordBool) {
		v.Bool = true
	} else {
		v.Low, v.High = r.bounds()
	}
	if r.tokens.Skip(wordInit) {
		v.Init, v.HasInit = r.expression(), true
	}
	r.want(";")
	return v
}

// bounds: [ e .. e ]
func (r *reader) bounds() (expr.Expr, expr.Expr) {
	r.want("[")
	low := r.expression()
	r.want("..")
	high := r.expression()
	r.want("]")
	return low, high
}

// isCommand: does one begin here?
func (r *reader) isCommand() bool {
	return r.tokens.Is("[")
}

// command: [ NAME or nothing ] e -> branches ;
func (r *reader) command() Command {
	c := Command{Pos: r.tokens.Peek().Pos}
	r.want("[")
	if !r.tokens.Is("]") {
		c.Action, _ = r.name()
	}
	r.want("]")
	c.Guard = r.expression()
	r.want("->")
	c.Branches = list([]Branch{r.branch()}, r.skips("+"), r.branch)
	r.want(";")
	return c
}

// branch: a weight, and true or settings.
func (r *reader) branch() Branch {
	b := Branch{Pos: r.tokens.Peek().Pos}
	b.Weight = r.weight()
	if !r.tokens.Skip(wordTrue) {
		b.Sets = list([]Set{r.setting()}, r.skips("&"), r.setting)
	}
	return b
}

// weight: a number and : or nothing.
func (r *reader) weight() int64 {
	pos := r.tokens.Peek().Pos
	n, err := r.tokens.Number()
	if err != nil {
		return noWeight
	}
	if n == 0 {
		r.fail(&api.At{Pos: pos, Err: api.ErrRange})
	}
	r.want(":")
	return n
}

// setting: ( NAME ' = e )
func (r *reader) setting() Set {
	r.want("(")
	name, pos := r.name()
	r.want("'")
	r.want("=")
	e := r.expression()
	r.want(")")
	return Set{Name: name, X: e, Pos: pos}
}

// expression: as far as it goes.
func (r *reader) expression() expr.Expr {
	e, err := expr.Read(r.tokens, r.depth)
	r.fail(err)
	return e
}

// isName: does one stand here?
func (r *reader) isName() bool {
	t := r.tokens.Peek()
	return t.Kind == kindName && !isWord(t.Text)
}

// name and its place: one must stand here.
func (r *reader) name() (string, int) {
	if !r.isName() {
		r.refuse()
	}
	t := r.tokens.Take()
	return t.Text, t.Pos
}

// text of a label and its place: one must stand here.
func (r *reader) text() (string, int) {
	if r.tokens.Peek().Kind != kindLabel {
		r.refuse()
	}
	t := r.tokens.Take()
	return t.Text, t.Pos
}

// skips: a question whether a sign or a word stands here, which goes on if so.
func (r *reader) skips(text string) func() bool {
	return func() bool { return r.tokens.Skip(text) }
}

// want: a sign or a word must stand here.
func (r *reader) want(text string) {
	r.fail(r.tokens.Want(text))
}

// refuse: what stands here can't.
func (r *reader) refuse() {
	r.fail(&api.At{Pos: r.tokens.Peek().Pos, Err: api.ErrSyntax})
}

// fail: by an error, if it is one; the first one counts.
func (r *reader) fail(err error) {
	if err == nil || r.err != nil {
		return
	}
	r.tokens, r.err = nil, err
}
