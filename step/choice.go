package step

import (
	"cmp"
	"slices"

	"sortilege/api"
	"sortilege/check"
)

// option is a rule whose guard holds, as the effects of its branches.
type option []effect

// choice is an action, or a rule without one: of each part the options, one of
// which is taken.
type choice struct {
	action string
	parts  [][]option
	module int // that of the last part
}

// gather the rules as choices, those without an action first. The places of those
// whose guards hold are told.
func gather(rules []check.Rule, guarded []int, r reckoner) []choice {
	var alone, joint []choice
	places := map[string]int{} // of actions, in joint
	for i, rule := range rules {
		var options []option
		if len(guarded) > 0 && guarded[0] == i {
			options, guarded = []option{r.option(rule)}, guarded[1:]
		}
		if rule.Action == "" {
			alone = append(alone, choice{parts: [][]option{options}})
			continue
		}
		at, there := places[rule.Action]
		if !there {
			at = len(joint)
			places[rule.Action] = at
			joint = append(joint, choice{action: rule.Action})
		}
		joint[at].join(rule.Module, options)
	}
	return append(alone, joint...)
}

// join: options of a module, which is a part even if there are none.
//
// Rules come module by module.
func (c *choice) join(module int, options []option) {
	last := len(c.parts) - 1
	if last >= 0 && c.module == module {
		c.parts[last] = append(c.parts[last], options...)
		return
	}
	c.parts, c.module = append(c.parts, options), module
}

// areTooMany: the ways of all choices, or the outcomes of one way?
func areTooMany(choices []choice) bool {
	ways := 0
	for _, c := range choices {
		n := howMany(c.parts)
		if n > 0 && howMany(widest(c.parts)) > api.MaxNodes {
			return true
		}
		ways += n
	}
	return ways > api.MaxNodes
}

// widest: the way with the most outcomes; each part must have an option.
func widest(parts [][]option) []option {
	l := make([]option, len(parts))
	for i, options := range parts {
		l[i] = slices.MaxFunc(options, func(a, b option) int { return cmp.Compare(len(a), len(b)) })
	}
	return l
}
