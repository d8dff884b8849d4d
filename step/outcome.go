package step

import (
	"slices"

	"sortilege/api"
	"sortilege/check"
	"sortilege/safe"
	"sortilege/value"
)

// effect is what a branch does in a state: its settings, or the first error of
// these.
//
// A branch may be taken in many outcomes: it is reckoned once, and its error is
// told where it is first taken.
type effect struct {
	weight   int64
	settings []setting
	err      error
}

// setting is a variable's number, and what it becomes.
type setting struct {
	place int
	n     int32
}

// reckoner reckons effects in a state.
type reckoner struct {
	vars  []check.Slot
	binds []value.Bind
}

// option: the effects of a rule's branches.
func (r reckoner) option(rule check.Rule) option {
	l := make(option, len(rule.Branches))
	for i, b := range rule.Branches {
		l[i] = r.effect(b)
	}
	return l
}

// effect: of a branch.
func (r reckoner) effect(b check.Branch) effect {
	e := effect{weight: b.Weight}
	for _, set := range b.Sets {
		s, err := r.setting(set)
		if err != nil {
			return effect{weight: b.Weight, err: err}
		}
		e.settings = append(e.settings, s)
	}
	return e
}

// setting: what a variable becomes, which must be within its range.
func (r reckoner) setting(s check.Set) (setting, error) {
	if s.Var < 0 || s.Var >= len(r.vars) {
		return setting{}, api.ErrArg
	}
	v, err := value.Eval(s.X, r.binds)
	if err != nil {
		return setting{}, err
	}
	n := numberOf(v)
	if n < int64(r.vars[s.Var].Low) || n > int64(r.vars[s.Var].High) {
		return setting{}, &api.At{Pos: s.X.Pos, Err: api.ErrRange}
	}
	return setting{s.Var, int32(n)}, nil
}

// numberOf: a value as it stands in a state.
func numberOf(v value.Value) int64 {
	if v.Is {
		return 1
	}
	return v.N
}

// outcomes: of a way that takes one of each option's effects; those with one state
// are one.
func outcomes(state []int32, options []option) ([]Next, error) {
	var l []Next
	places := map[string]int{} // of states, in l
	for effects := range takings(options) {
		weight, err := product(effects)
		if err != nil {
			return nil, err
		}
		next, err := after(state, effects)
		if err != nil {
			return nil, err
		}
		k := key(next)
		at, there := places[k]
		if !there {
			places[k] = len(l)
			l = append(l, Next{State: next, Weight: weight})
			continue
		}
		if l[at].Weight, err = safe.Add(l[at].Weight, weight); err != nil {
			return nil, err
		}
	}
	return l, nil
}

// product: of the weights.
func product(effects []effect) (int64, error) {
	weight := int64(1)
	for _, e := range effects {
		var err error
		if weight, err = safe.Mul(weight, e.weight); err != nil {
			return 0, err
		}
	}
	return weight, nil
}

// after: the state with all settings.
func after(state []int32, effects []effect) ([]int32, error) {
	next := slices.Clone(state)
	for _, e := range effects {
		if e.err != nil {
			return nil, e.err
		}
		for _, s := range e.settings {
			next[s.place] = s.n
		}
	}
	return next, nil
}

// key: a text that no other state of as many variables has.
func key(state []int32) string {
	text := make([]byte, 0, 4*len(state))
	for _, n := range state {
		text = append(text, byte(n), byte(n>>8), byte(n>>16), byte(n>>24))
	}
	return string(text)
}
