package fold

import (
	"sortilege/api"
	"sortilege/expr"
)

// The marks of names, but for those that nobody has asked for.
const (
	markAsked = iota + 1 // it is being found out
	markFound
)

// finder finds out names, each one behind those that it asks for.
type finder struct {
	marks map[string]int
	// ask tells which other name a name asks for that isn't found out, or nil if
	// there is none: it is found out then.
	ask func(name string) (*expr.Expr, error)
}

// newFinder: nothing is found out yet.
func newFinder(ask func(name string) (*expr.Expr, error)) finder {
	return finder{marks: map[string]int{}, ask: ask}
}

// find: finds out a name, if it isn't yet.
//
// Those that wait for others stand in a list, rather than in calls within calls:
// they may be as many as there are names.
func (f finder) find(name string) error {
	if f.marks[name] == markFound {
		return nil
	}
	for waiting := []string{name}; len(waiting) > 0; {
		last := len(waiting) - 1
		f.marks[waiting[last]] = markAsked
		other, err := f.ask(waiting[last])
		switch {
		case err != nil:
			return err
		case other == nil:
			f.marks[waiting[last]] = markFound
			waiting = waiting[:last]
		case f.marks[other.Name] == markAsked:
			return wrongAt(other.Pos, api.ErrCycle)
		default:
			waiting = append(waiting, other.Name)
		}
	}
	return nil
}
