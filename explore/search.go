package explore

import (
	"sortilege/api"
	"sortilege/check"
	"sortilege/intern"
	"sortilege/mdp"
	"sortilege/step"
)

// search for the states of a flat model.
//
// All that were found stand in the table by their numbers: those that were looked
// at, and behind them those that wait.
type search struct {
	flat  check.Flat
	most  int // states that there may be
	table *intern.Table
}

// look at a state: which labels hold, and its choices. States that are new wait in
// the table from then on.
func (s search) look(state []int32) ([]int, []mdp.Choice, error) {
	holds, err := step.Holds(s.flat, state)
	if err != nil {
		return nil, nil, err
	}
	ways, err := step.Ways(s.flat, state)
	if err != nil {
		return nil, nil, err
	}
	if len(ways) == 0 {
		return nil, nil, api.ErrDead
	}
	choices := make([]mdp.Choice, len(ways))
	for i, w := range ways {
		moves, err := s.moves(w.Next)
		if err != nil {
			return nil, nil, err
		}
		choices[i] = mdp.Choice{Action: w.Action, Moves: moves}
	}
	return holds, choices, nil
}

// moves: to the numbers of next states.
func (s search) moves(l []step.Next) ([]mdp.Move, error) {
	moves := make([]mdp.Move, len(l))
	for i, next := range l {
		to, err := s.number(next.State)
		if err != nil {
			return nil, err
		}
		moves[i] = mdp.Move{To: to, Weight: next.Weight}
	}
	return moves, nil
}

// number of a state, a new one if it wasn't found before.
func (s search) number(state []int32) (int, error) {
	n, _, err := s.table.Put(state)
	if err != nil {
		return 0, err
	}
	// Numbers rise by one: this is the first state that is too much.
	if n == s.most {
		return 0, api.ErrStates
	}
	return n, nil
}
