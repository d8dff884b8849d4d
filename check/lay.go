package check

import (
	"math"
	"slices"

	"sortilege/api"
	"sortilege/expr"
	"sortilege/model"
	"sortilege/value"
)

// layVars: the variables of all modules, in order.
func layVars(modules []model.Module) ([]Slot, error) {
	var done []Slot
	for number, m := range modules {
		for _, v := range m.Vars {
			if len(done) == api.MaxVars {
				return nil, wrongAt(v.Pos, api.ErrLong)
			}
			s, err := laySlot(v, number)
			if err != nil {
				return nil, err
			}
			done = append(done, s)
		}
	}
	return done, nil
}

// laySlot: a variable of a module.
func laySlot(v model.Var, module int) (Slot, error) {
	s := Slot{Name: v.Name, Module: module, Bool: v.Bool, High: 1}
	if !v.Bool {
		low, high, err := bounds(v)
		if err != nil {
			return Slot{}, err
		}
		s.Low, s.High = low, high
	}
	s.Init = s.Low
	if v.HasInit {
		first, err := worth(v.Init, v.Bool)
		if err != nil {
			return Slot{}, err
		}
		if first < int64(s.Low) || first > int64(s.High) {
			return Slot{}, wrongAt(v.Init.Pos, api.ErrRange)
		}
		s.Init = int32(first)
	}
	return s, nil
}

// bounds: of a variable that is a number.
func bounds(v model.Var) (int32, int32, error) {
	low, err := worth(v.Low, false)
	if err != nil {
		return 0, 0, err
	}
	high, err := worth(v.High, false)
	if err != nil {
		return 0, 0, err
	}
	if low < math.MinInt32 || low > high || high > math.MaxInt32 {
		return 0, 0, wrongAt(v.Pos, api.ErrRange)
	}
	return int32(low), int32(high), nil
}

// worth: what an expression without names is worth, which must be a truth, or a
// number; of truths 0 or 1.
func worth(e expr.Expr, isTruth bool) (int64, error) {
	v, err := value.Eval(e, nil)
	switch {
	case err != nil:
		return 0, err
	case v.Truth != isTruth:
		return 0, wrongAt(e.Pos, api.ErrType)
	case v.Is:
		return 1, nil
	}
	return v.N, nil
}

// layLabels: all of them, which must be truths.
func layLabels(l []model.Def, vars []Slot) ([]Label, error) {
	return each(l, func(d model.Def) (Label, error) {
		if err := checkKind(d.X, true, vars); err != nil {
			return Label{}, err
		}
		return Label{Name: d.Name, X: d.X}, nil
	})
}

// layRules: the commands of all modules, in order.
func layRules(modules []model.Module, vars []Slot) ([]Rule, error) {
	var done []Rule
	for number, m := range modules {
		rules, err := each(m.Commands, among{vars, number}.rule)
		if err != nil {
			return nil, err
		}
		done = append(done, rules...)
	}
	return done, nil
}

// among is where a command stands: among all variables, in a module.
type among struct {
	vars   []Slot
	module int
}

// rule: a command, the guard of which must be a truth.
func (a among) rule(c model.Command) (Rule, error) {
	if err := checkKind(c.Guard, true, a.vars); err != nil {
		return Rule{}, err
	}
	branches, err := each(c.Branches, a.branch)
	if err != nil {
		return Rule{}, err
	}
	return Rule{Module: a.module, Action: c.Action, Guard: c.Guard, Branches: branches}, nil
}

// branch: each variable is set once at most.
func (a among) branch(b model.Branch) (Branch, error) {
	done := Branch{Weight: b.Weight}
	for _, s := range b.Sets {
		set, err := a.set(s, done.Sets)
		if err != nil {
			return Branch{}, err
		}
		done.Sets = append(done.Sets, set)
	}
	return done, nil
}

// set: a setting, behind those of its branch that stand ahead of it.
func (a among) set(s model.Set, ahead []Set) (Set, error) {
	i := find(a.vars, s.Name)
	if i < 0 || slices.ContainsFunc(ahead, func(other Set) bool { return other.Var == i }) {
		return Set{}, wrongAt(s.Pos, api.ErrName)
	}
	if a.vars[i].Module != a.module {
		return Set{}, wrongAt(s.Pos, api.ErrOwner)
	}
	if err := checkKind(s.X, a.vars[i].Bool, a.vars); err != nil {
		return Set{}, err
	}
	return Set{Var: i, X: s.X}, nil
}

// each: what comes of each item, in a list of its own; or the first error.
func each[T, U any](l []T, of func(T) (U, error)) ([]U, error) {
	var done []U
	for _, item := range l {
		next, err := of(item)
		if err != nil {
			return nil, err
		}
		done = append(done, next)
	}
	return done, nil
}
