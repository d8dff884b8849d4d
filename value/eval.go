package value

import (
	"sortilege/api"
	"sortilege/expr"
	"sortilege/safe"
)

// kidsOf: how many kids an expression with that Op has; less than none if
// there is no such Op.
func kidsOf(op string) int {
	switch op {
	case opNum, opName, opTrue, opFalse:
		return 0
	case opNeg, "!":
		return 1
	case "+", "-", "*", "<", "<=", ">", ">=", "=", "!=", "&", "|", "=>":
		return 2
	case "?":
		return 3
	}
	return -1
}

// wrong: nothing but an error, at the place of that expression.
func wrong(e expr.Expr, err error) (Value, error) {
	return Value{}, &api.At{Pos: e.Pos, Err: err}
}

// number: what it is worth, which must be a number.
func number(e expr.Expr, l []Bind) (Value, error) {
	v, err := Eval(e, l)
	if err == nil && v.Truth {
		return wrong(e, api.ErrType)
	}
	return v, err
}

// truth: what it is worth, which must be a truth.
func truth(e expr.Expr, l []Bind) (Value, error) {
	v, err := Eval(e, l)
	if err == nil && !v.Truth {
		return wrong(e, api.ErrType)
	}
	return v, err
}

// bound: of a name.
func bound(e expr.Expr, l []Bind) (Value, error) {
	for _, b := range l {
		if b.Name != e.Name {
			continue
		}
		// Made anew, so that the half of a value that doesn't count is zero.
		if b.V.Truth {
			return Truth(b.V.Is), nil
		}
		return Number(b.V.N), nil
	}
	return wrong(e, api.ErrName)
}

// negative: of neg.
func negative(e expr.Expr, l []Bind) (Value, error) {
	v, err := number(e.Kids[0], l)
	if err != nil {
		return Value{}, err
	}
	n, err := safe.Neg(v.N)
	if err != nil {
		return wrong(e, err)
	}
	return Number(n), nil
}

// opposite: of !
func opposite(e expr.Expr, l []Bind) (Value, error) {
	v, err := truth(e.Kids[0], l)
	if err != nil {
		return Value{}, err
	}
	return Truth(!v.Is), nil
}

// choice: of ?, the one that the first kid asks for.
func choice(e expr.Expr, l []Bind) (Value, error) {
	first, err := truth(e.Kids[0], l)
	if err != nil {
		return Value{}, err
	}
	if first.Is {
		return Eval(e.Kids[1], l)
	}
	return Eval(e.Kids[2], l)
}

// ofTruths: of & | =>, the right one of which is asked only if the left one
// doesn't tell the whole.
func ofTruths(e expr.Expr, l []Bind) (Value, error) {
	v, err := truth(e.Kids[0], l)
	if err != nil {
		return Value{}, err
	}
	left, told := v.Is, false
	switch e.Op {
	case "=>":
		// a => b is !a | b.
		left = !left
		fallthrough
	case "|":
		told = left
	case "&":
		told = !left
	}
	if told {
		return Truth(left), nil
	}
	return truth(e.Kids[1], l)
}

// ofOneKind: of = and !=, whose kids are two numbers or two truths.
func ofOneKind(e expr.Expr, l []Bind) (Value, error) {
	left, err := Eval(e.Kids[0], l)
	if err != nil {
		return Value{}, err
	}
	right, err := Eval(e.Kids[1], l)
	if err != nil {
		return Value{}, err
	}
	if left.Truth != right.Truth {
		return wrong(e.Kids[1], api.ErrType)
	}
	return Truth((left == right) == (e.Op == "=")), nil
}

// ofNumbers: of all that have two numbers as kids.
func ofNumbers(e expr.Expr, l []Bind) (Value, error) {
	left, err := number(e.Kids[0], l)
	if err != nil {
		return Value{}, err
	}
	right, err := number(e.Kids[1], l)
	if err != nil {
		return Value{}, err
	}
	v, err := joined(e.Op, left.N, right.N)
	if err != nil {
		return wrong(e, err)
	}
	return v, nil
}

// joined: two numbers with a sign between.
func joined(sign string, a, b int64) (Value, error) {
	switch sign {
	case "+":
		return reckoned(safe.Add(a, b))
	case "-":
		return reckoned(safe.Sub(a, b))
	case "*":
		return reckoned(safe.Mul(a, b))
	case ">":
		// a > b is b < a.
		a, b = b, a
		fallthrough
	case "<":
		return Truth(a < b), nil
	case "<=":
		// a <= b is b >= a.
		a, b = b, a
		fallthrough
	default:
		return Truth(a >= b), nil
	}
}

// reckoned: a number as a value, beside the error that it is too great.
func reckoned(n int64, err error) (Value, error) {
	return Number(n), err
}
