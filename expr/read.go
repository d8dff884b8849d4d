package expr

import (
	"sortilege/api"
	"sortilege/scan"
)

// reader reads expressions, each kind by a method of its own.
type reader struct {
	tokens *scan.Reader
	levels int // how many may still be gone down
}

// deeper: one that stands a level deeper than where it is read.
func (r *reader) deeper(read func() (Expr, error)) (Expr, error) {
	if r.levels == 0 {
		return Expr{}, &api.At{Pos: r.tokens.Peek().Pos, Err: api.ErrDeep}
	}
	r.levels--
	e, err := read()
	r.levels++
	return e, err
}

// choice: an implication, or one with ? and : behind it.
func (r *reader) choice() (Expr, error) {
	asked, err := r.implication()
	if err != nil || !r.tokens.Skip("?") {
		return asked, err
	}
	then, err := r.deeper(r.choice)
	if err != nil {
		return Expr{}, err
	}
	if err := r.tokens.Want(":"); err != nil {
		return Expr{}, err
	}
	otherwise, err := r.deeper(r.choice)
	if err != nil {
		return Expr{}, err
	}
	return Expr{Op: "?", Kids: []Expr{asked, then, otherwise}, Pos: asked.Pos}, nil
}

// implication: a disjunction, or one with => and another implication behind it.
func (r *reader) implication() (Expr, error) {
	left, err := r.disjunction()
	if err != nil || !r.tokens.Skip("=>") {
		return left, err
	}
	right, err := r.deeper(r.implication)
	return joined("=>", left, right, err)
}

// disjunction: conjunctions with | between.
func (r *reader) disjunction() (Expr, error) {
	return r.chain(rankDisjunction, r.conjunction)
}

// conjunction: negations with & between.
func (r *reader) conjunction() (Expr, error) {
	return r.chain(rankConjunction, r.negation)
}

// negation: one with ! ahead of it, or a comparison.
func (r *reader) negation() (Expr, error) {
	if r.tokens.Is("!") {
		return r.prefixed("!", r.negation)
	}
	return r.comparison()
}

// comparison: a sum, or two of them with one sign between.
func (r *reader) comparison() (Expr, error) {
	left, err := r.sum()
	if err != nil {
		return Expr{}, err
	}
	sign, ok := r.sign(rankComparison)
	if !ok {
		return left, nil
	}
	right, err := r.sum()
	return joined(sign, left, right, err)
}

// sum: products with + or - between.
func (r *reader) sum() (Expr, error) {
	return r.chain(rankSum, r.product)
}

// product: those with or without a minus, with * between.
func (r *reader) product() (Expr, error) {
	return r.chain(rankProduct, r.minus)
}

// minus: one with - ahead of it, or an atom.
func (r *reader) minus() (Expr, error) {
	if r.tokens.Is("-") {
		return r.prefixed(opNeg, r.minus)
	}
	return r.atom()
}

// atom: one in parentheses, a name, a truth or a number.
func (r *reader) atom() (Expr, error) {
	pos := r.tokens.Peek().Pos
	if r.tokens.Skip("(") {
		return r.enclosed(pos)
	}
	if name, err := r.tokens.Name(); err == nil {
		return word(name, pos), nil
	}
	// What is no number either can't stand here, as the error tells.
	n, err := r.tokens.Number()
	if err != nil {
		return Expr{}, err
	}
	return Expr{Op: opNum, N: n, Pos: pos}, nil
}

// enclosed: one behind the parenthesis at that place.
func (r *reader) enclosed(pos int) (Expr, error) {
	e, err := r.deeper(r.choice)
	if err != nil {
		return Expr{}, err
	}
	if err := r.tokens.Want(")"); err != nil {
		return Expr{}, err
	}
	e.Pos = pos
	return e, nil
}

// word: what a name stands for.
func word(name string, pos int) Expr {
	switch name {
	case opTrue:
		fallthrough
	case opFalse:
		return Expr{Op: name, Pos: pos}
	}
	return Expr{Op: opName, Name: name, Pos: pos}
}

// chain: those that are read alike, with signs of one rank between; it stands
// to the left.
func (r *reader) chain(rank int, read func() (Expr, error)) (Expr, error) {
	e, err := read()
	for err == nil {
		sign, ok := r.sign(rank)
		if !ok {
			return e, nil
		}
		var right Expr
		right, err = read()
		e, err = joined(sign, e, right, err)
	}
	return Expr{}, err
}

// sign: the one of that rank where the reader is, which goes on then.
func (r *reader) sign(rank int) (string, bool) {
	text := r.tokens.Peek().Text
	// A label may have a sign's text, but is never skipped.
	if rankOf(text) != rank || !r.tokens.Skip(text) {
		return "", false
	}
	return text, true
}

// prefixed: one behind the sign where the reader is.
func (r *reader) prefixed(op string, read func() (Expr, error)) (Expr, error) {
	pos := r.tokens.Take().Pos
	kid, err := r.deeper(read)
	if err != nil {
		return Expr{}, err
	}
	return Expr{Op: op, Kids: []Expr{kid}, Pos: pos}, nil
}

// joined: one with two kids, unless the right one couldn't be read.
func joined(op string, left, right Expr, err error) (Expr, error) {
	if err != nil {
		return Expr{}, err
	}
	return Expr{Op: op, Kids: []Expr{left, right}, Pos: left.Pos}, nil
}
