package prop

import (
	"sortilege/api"
	"sortilege/scan"
)

// The kinds of scan's tokens that are asked for.
const (
	kindEnd    = 0
	kindNumber = 2
	kindLabel  = 3
)

// The words with which questions begin.
const (
	wordMin = "Pmin"
	wordMax = "Pmax"
)

// reader reads formulas and questions token by token.
//
// At the first error it lets go of its tokens. From then on it is at an end,
// where nothing can be read, so that only the whole asks for the error.
type reader struct {
	tokens *scan.Reader
	levels int // how many may still be gone down
	err    error
}

// readAll: what a whole text is read as, or the error at which that ends.
func readAll[T any](s string, depth int, read func(r *reader) T) (T, error) {
	var none T
	if depth < 1 || depth > api.MaxDepth {
		return none, api.ErrArg
	}
	tokens, err := scan.New(s)
	if err != nil {
		return none, err
	}
	// The whole is on the first level.
	r := &reader{tokens: tokens, levels: depth - 1}
	told := read(r)
	if !r.isEnd() {
		r.refuse()
	}
	if r.err != nil {
		return none, r.err
	}
	return told, nil
}

// questions: one behind the other, up to the end.
func (r *reader) questions() []Query {
	var l []Query
	for !r.isEnd() {
		l = append(l, r.question())
	}
	return l
}

// question: its kind, [ a formula ] and ;
func (r *reader) question() Query {
	q := Query{Pos: r.tokens.Peek().Pos}
	q.Kind = r.extreme() + r.bound()
	r.want("[")
	q.F = r.formula()
	r.want("]")
	r.want(";")
	return q
}

// extreme: under each scheduler, or under some.
func (r *reader) extreme() string {
	switch {
	case r.tokens.Skip(wordMin):
		return wordMin
	case r.tokens.Skip(wordMax):
		return wordMax
	}
	r.refuse()
	return ""
}

// bound: = and 1, or > and 0.
func (r *reader) bound() string {
	switch {
	case r.tokens.Skip("="):
		return "=" + r.digits("1")
	case r.tokens.Skip(">"):
		return ">" + r.digits("0")
	}
	r.refuse()
	return ""
}

// digits: a number that is written so must stand here.
func (r *reader) digits(text string) string {
	if t := r.tokens.Peek(); t.Kind != kindNumber || t.Text != text {
		r.refuse()
	}
	r.tokens.Take()
	return text
}

// formula: a disjunction, or one with => and another formula behind it.
func (r *reader) formula() Formula {
	return r.toTheRight(rankImplication, r.disjunction, r.formula)
}

// disjunction: conjunctions with | between.
func (r *reader) disjunction() Formula {
	return r.toTheLeft(rankDisjunction, r.conjunction)
}

// conjunction: untils with & between.
func (r *reader) conjunction() Formula {
	return r.toTheLeft(rankConjunction, r.until)
}

// until: one with a prefix or an atom, or such a one with U, W or R and another
// until behind it.
func (r *reader) until() Formula {
	return r.toTheRight(rankUntil, r.prefixed, r.until)
}

// prefixed: one with ! X F G ahead of it, or an atom.
func (r *reader) prefixed() Formula {
	pos := r.tokens.Peek().Pos
	op, ok := r.sign(rankPrefix)
	if !ok {
		return r.atom()
	}
	return Formula{Op: op, Kids: []Formula{r.deeper(r.prefixed)}, Pos: pos}
}

// atom: a label, true, false, or one in parentheses.
func (r *reader) atom() Formula {
	t := r.tokens.Peek()
	switch {
	case t.Kind == kindLabel:
		r.tokens.Take()
		return Formula{Op: opLabel, Name: t.Text, Pos: t.Pos}
	case r.tokens.Skip(opTrue), r.tokens.Skip(opFalse):
		return Formula{Op: t.Text, Pos: t.Pos}
	case r.tokens.Skip("("):
		return r.enclosed(t.Pos)
	}
	r.refuse()
	return Formula{}
}

// enclosed: one behind the parenthesis at that place.
func (r *reader) enclosed(pos int) Formula {
	f := r.deeper(r.formula)
	r.want(")")
	f.Pos = pos
	return f
}

// toTheLeft: those that are read alike, with signs of one rank between; such a
// chain stands to the left.
func (r *reader) toTheLeft(rank int, read func() Formula) Formula {
	f := read()
	for op, ok := r.sign(rank); ok; op, ok = r.sign(rank) {
		f = joined(op, f, read())
	}
	return f
}

// toTheRight: one, or one with a sign of that rank and what may stand behind it;
// such a chain stands to the right.
func (r *reader) toTheRight(rank int, read, behind func() Formula) Formula {
	f := read()
	if op, ok := r.sign(rank); ok {
		f = joined(op, f, r.deeper(behind))
	}
	return f
}

// joined: one with two kids.
func joined(op string, left, right Formula) Formula {
	return Formula{Op: op, Kids: []Formula{left, right}, Pos: left.Pos}
}

// deeper: one that stands a level deeper than where it is read.
func (r *reader) deeper(read func() Formula) Formula {
	if r.levels == 0 {
		r.fail(api.ErrDeep)
		return Formula{}
	}
	r.levels--
	f := read()
	r.levels++
	return f
}

// sign: the one of that rank, a word maybe, where the reader is, which goes on
// then.
func (r *reader) sign(rank int) (string, bool) {
	text := r.tokens.Peek().Text
	// A label may have a sign's text, but is never skipped.
	if rankOf(text) != rank || !r.tokens.Skip(text) {
		return "", false
	}
	return text, true
}

// isEnd: is nothing left?
func (r *reader) isEnd() bool {
	return r.tokens.Peek().Kind == kindEnd
}

// want: a sign must stand here.
func (r *reader) want(text string) {
	if !r.tokens.Skip(text) {
		r.refuse()
	}
}

// refuse: what stands here can't.
func (r *reader) refuse() {
	r.fail(api.ErrSyntax)
}

// fail: by an error where the reader is; the first one counts.
func (r *reader) fail(err error) {
	if r.err != nil {
		return
	}
	r.tokens, r.err = nil, &api.At{Pos: r.tokens.Peek().Pos, Err: err}
}
