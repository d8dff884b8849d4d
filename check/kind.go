package check

import (
	"slices"

	"sortilege/api"
	"sortilege/expr"
)

// The Ops that aren't the sign by which they are read.
const (
	opNum   = "num"
	opName  = "name"
	opTrue  = "true"
	opFalse = "false"
	opNeg   = "neg"
)

// want is what the kind of a kid must be.
type want int

// The wants.
const (
	wantAny want = iota
	wantNumber
	wantTruth
	wantSame // as that of the kid ahead of it
)

// isMet: by a kid that is a truth, or a number, behind another one.
func (w want) isMet(isTruth, ahead bool) bool {
	switch w {
	case wantNumber:
		return !isTruth
	case wantTruth:
		return isTruth
	case wantSame:
		return isTruth == ahead
	}
	return true
}

// wantsOf: what an expression with that Op wants of its kids, each of them; false
// if there is no such Op.
func wantsOf(op string) ([]want, bool) {
	var l []want
	switch op {
	case opNum, opName, opTrue, opFalse:
		// They have none.
	case "?":
		// Those that are chosen from are two of one kind, too.
		l = append(l, wantTruth)
		fallthrough
	case "=", "!=":
		l = append(l, wantAny, wantSame)
	case "&", "|", "=>":
		l = append(l, wantTruth)
		fallthrough
	case "!":
		l = append(l, wantTruth)
	case "+", "-", "*", "<", "<=", ">", ">=":
		l = append(l, wantNumber)
		fallthrough
	case opNeg:
		l = append(l, wantNumber)
	default:
		return nil, false
	}
	return l, true
}

// ownKind: that of an expression whose kids are right, by that of its last one.
func ownKind(e expr.Expr, last bool, l []Slot) (bool, error) {
	switch e.Op {
	case opName:
		return kindOfName(e, l)
	case "?":
		return last, nil
	case opNum, opNeg, "+", "-", "*":
		return false, nil
	}
	return true, nil
}

// kindOfName: that of its variable.
func kindOfName(e expr.Expr, l []Slot) (bool, error) {
	i := find(l, e.Name)
	if i < 0 {
		return false, wrongAt(e.Pos, api.ErrName)
	}
	return l[i].Bool, nil
}

// find: the number of the first variable of a name; less than 0 if there is none.
func find(l []Slot, name string) int {
	return slices.IndexFunc(l, func(s Slot) bool { return s.Name == name })
}

// checkKind: an expression must be a truth, or a number.
func checkKind(e expr.Expr, isTruth bool, l []Slot) error {
	is, err := Kind(e, l)
	if err == nil && is != isTruth {
		return wrongAt(e.Pos, api.ErrType)
	}
	return err
}
