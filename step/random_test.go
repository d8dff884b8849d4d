package step

import (
	"errors"
	"math/big"
	"math/rand/v2"
	"reflect"
	"slices"
	"strconv"
	"strings"
	"testing"

	"sortilege/api"
	"sortilege/check"
	"sortilege/expr"
	"sortilege/value"
)

// fault: an error, at a place if it has one, as a panic.
type fault struct {
	errno  api.Errno
	placed bool
	pos    int
}

// caught: what is told, or the fault by which it isn't.
func caught[T any](do func() T) (x T, f *fault) {
	defer func() {
		if r := recover(); r != nil {
			told := r.(fault)
			f = &told
		}
	}()
	return do(), nil
}

// isFault: does an error say so?
func isFault(err error, f *fault) bool {
	if f.placed {
		return isAt(err, f.errno, f.pos)
	}
	return err == error(f.errno)
}

// second is a second stepping: lists are crossed by calls within calls, weights are
// numbers of any size, everything is reckoned where it comes, and states are sought
// one by one.
type second struct {
	flat  check.Flat
	state []int32
}

// eval: an expression by its name's numbers.
func (s second) eval(e expr.Expr) int64 {
	var l []value.Bind
	for i, v := range s.flat.Vars {
		b := value.Bind{Name: v.Name, V: value.Number(int64(s.state[i]))}
		if v.Bool {
			b.V = value.Truth(s.state[i] < 0 || s.state[i] > 0)
		}
		l = append(l, b)
	}
	v, err := value.Eval(e, l)
	var at *api.At
	if errors.As(err, &at) {
		panic(fault{at.Err.(api.Errno), true, at.Pos})
	}
	if v.Truth && v.Is {
		return 1
	}
	return v.N
}

// cross: all lists of one item of each, the first one changing slowest.
func cross[T any](lists [][]T) [][]T {
	if len(lists) == 0 {
		return [][]T{nil}
	}
	var l [][]T
	for _, item := range lists[0] {
		for _, rest := range cross(lists[1:]) {
			l = append(l, append([]T{item}, rest...))
		}
	}
	return l
}

// taken: of each way the rules.
func (s second) taken() [][]check.Rule {
	may := make([]bool, len(s.flat.Rules))
	var l [][]check.Rule
	for i, r := range s.flat.Rules {
		may[i] = s.eval(r.Guard) == 1
		if may[i] && r.Action == "" {
			l = append(l, []check.Rule{r})
		}
	}
	done := []string{""}
	for _, first := range s.flat.Rules {
		if slices.Contains(done, first.Action) {
			continue
		}
		done = append(done, first.Action)
		var parts [][]check.Rule
		for m := range s.flat.Modules {
			var part []check.Rule
			has := false
			for i, r := range s.flat.Rules {
				if r.Module != m || r.Action != first.Action {
					continue
				}
				has = true
				if may[i] {
					part = append(part, r)
				}
			}
			if has {
				parts = append(parts, part)
			}
		}
		l = append(l, cross(parts)...)
	}
	return l
}

// ways: all of them, with their outcomes.
func (s second) ways() []Way {
	l := s.taken()
	for _, rules := range l {
		n := big.NewInt(1)
		for _, r := range rules {
			n.Mul(n, big.NewInt(int64(len(r.Branches))))
		}
		if len(l) > 4096 || n.Cmp(big.NewInt(4096)) > 0 {
			panic(fault{errno: api.ErrLong})
		}
	}
	var ways []Way
	for _, rules := range l {
		var lists [][]check.Branch
		for _, r := range rules {
			lists = append(lists, r.Branches)
		}
		w := Way{Action: rules[0].Action}
		for _, branches := range cross(lists) {
			w.Next = s.outcome(w.Next, branches)
		}
		ways = append(ways, w)
	}
	return ways
}

// fits: a number of 64 bits.
func fits(n *big.Int) int64 {
	if !n.IsInt64() {
		panic(fault{errno: api.ErrOver})
	}
	return n.Int64()
}

// outcome: one more.
func (s second) outcome(l []Next, branches []check.Branch) []Next {
	weight := big.NewInt(1)
	for _, b := range branches {
		fits(weight.Mul(weight, big.NewInt(b.Weight)))
	}
	next := slices.Clone(s.state)
	for _, b := range branches {
		for _, set := range b.Sets {
			n, v := s.eval(set.X), s.flat.Vars[set.Var]
			if n < int64(v.Low) || n > int64(v.High) {
				panic(fault{api.ErrRange, true, set.X.Pos})
			}
			next[set.Var] = int32(n)
		}
	}
	for i := range l {
		if slices.Equal(l[i].State, next) {
			l[i].Weight = fits(weight.Add(weight, big.NewInt(l[i].Weight)))
			return l
		}
	}
	return append(l, Next{next, fits(weight)})
}

// holds: which labels do.
func (s second) holds() []int {
	var l []int
	for i, label := range s.flat.Labels {
		if s.eval(label.X) == 1 {
			l = append(l, i)
		}
	}
	return l
}

// variable is a name and what it may be.
type variable struct {
	name      string
	bool      bool
	low, high int
}

// writer: writes models by chance.
type writer struct {
	rnd   *rand.Rand
	slips int    // of how many pieces one is wrong; none if 0
	wide  string // what there are many of, "rules", "branches" or neither
	all   []variable
}

// one: some item.
func one[T any](w *writer, l ...T) T { return l[w.rnd.IntN(len(l))] }

// slip: is this piece wrong?
func (w *writer) slip() bool { return w.slips > 0 && w.rnd.IntN(w.slips) == 0 }

// number: within a variable's range.
func (w *writer) number(v variable) string {
	return strconv.Itoa(v.low + w.rnd.IntN(v.high-v.low+1))
}

// truth: an expression, with more of them in it the deeper it may be.
func (w *writer) truth(depth int) string {
	if w.slip() && len(w.all) > 0 && !w.all[0].bool {
		v := w.all[0]
		return "(" + v.name + one(w, " * 9223372036854775807 * 3 != 0", " + 9223372036854775806 > 0") + ")"
	}
	switch {
	case depth > 0 && w.rnd.IntN(2) == 0:
		return "(" + w.truth(depth-1) + one(w, " & ", " | ", " => ", " = ", " != ") + w.truth(depth-1) + ")"
	case len(w.all) == 0 || w.rnd.IntN(3) == 0:
		return one(w, "true", "true", "true", "false")
	}
	v := one(w, w.all...)
	if v.bool {
		return "(" + one(w, "", "!") + v.name + ")"
	}
	return "(" + v.name + one(w, " < ", " <= ", " > ", " >= ", " = ", " != ") + w.number(v) + ")"
}

// becomes: what a variable may become; within its range but for slips.
func (w *writer) becomes(v variable) string {
	switch {
	case v.bool && w.slip() && len(w.all) > 0 && !w.all[0].bool:
		return w.all[0].name + " * 9223372036854775807 * 3 > 0"
	case v.bool:
		return one(w, w.truth(1), "!"+v.name, "true", "false")
	case w.slip():
		return one(w, v.name+" + 1", v.name+" - 1", v.name+" * 4294967296", v.name+" + 9223372036854775806", strconv.Itoa(v.high+1), "-4294967297")
	}
	low, high := strconv.Itoa(v.low), strconv.Itoa(v.high)
	return one(w, w.number(v), "("+v.name+" < "+high+" & "+v.name+" >= "+low+" ? "+v.name+" + 1 : "+low+")",
		"("+w.truth(1)+" ? "+w.number(v)+" : "+w.number(v)+")", "("+v.name+" > "+low+" & "+v.name+" <= "+high+" ? "+v.name+" - 1 : "+high+")")
}

// weight: nothing, or a number and a colon.
func (w *writer) weight() string {
	if w.slip() {
		return one(w, "3037000500", "4611686018427387904", "9223372036854775807", "2147483648") + " : "
	}
	return one(w, "", "", "2 : ", "3 : ", strconv.Itoa(1+w.rnd.IntN(50))+" : ")
}

// branch: of a module with these variables.
func (w *writer) branch(own []variable) string {
	var l []string
	for _, i := range w.rnd.Perm(len(own)) {
		if w.rnd.IntN(2) == 0 {
			l = append(l, "("+own[i].name+"' = "+w.becomes(own[i])+")")
		}
	}
	if len(l) == 0 {
		return w.weight() + "true"
	}
	return w.weight() + strings.Join(l, " & ")
}

// command: of a module with these variables.
func (w *writer) command(own []variable) string {
	var l []string
	for range one(w, 1, 1, 1, 2, 3) {
		l = append(l, w.branch(own))
	}
	return "[" + one(w, "", "", "go", "go", "on", "up") + "] " + w.truth(2) + " -> " + strings.Join(l, " + ") + "; "
}

// commands: so many that they come near to what may be, or pass it.
func (w *writer) commands(own []variable) string {
	if w.wide == "rules" {
		return strings.Repeat("[go] "+one(w, "true", "true", "true", w.truth(1))+" -> "+w.branch(own)+"; ", 7+w.rnd.IntN(3))
	}
	return "[go] true -> true" + strings.Repeat(" + "+w.branch(own), 6+w.rnd.IntN(3)) + "; "
}

// model: as a text.
func (w *writer) model() string {
	own := make([][]variable, w.rnd.IntN(5))
	if w.wide != "" {
		own = make([][]variable, 4)
	}
	for i := range own {
		for range w.rnd.IntN(4) {
			v := variable{name: "v" + strconv.Itoa(len(w.all)), bool: w.rnd.IntN(3) == 0, low: w.rnd.IntN(4) - 2}
			v.high = v.low + w.rnd.IntN(3)
			own[i], w.all = append(own[i], v), append(w.all, v)
		}
	}
	s := "mdp "
	for i, l := range own {
		s += "module m" + strconv.Itoa(i) + " "
		for _, v := range l {
			if v.bool {
				s += v.name + " : bool" + one(w, "; ", " init true; ")
			} else {
				s += v.name + " : [" + strconv.Itoa(v.low) + ".." + strconv.Itoa(v.high) + "] init " + w.number(v) + "; "
			}
		}
		if w.wide != "" {
			s += w.commands(l)
		} else {
			for range w.rnd.IntN(6) {
				s += w.command(l)
			}
		}
		s += "endmodule "
	}
	for i := range w.rnd.IntN(3) {
		s += "label \"" + strconv.Itoa(i) + "\" = " + w.truth(2) + "; "
	}
	return s
}

// anywhere: a state within the ranges, or near to them.
func (w *writer) anywhere(f check.Flat, near bool) []int32 {
	l := make([]int32, len(f.Vars))
	for i, v := range f.Vars {
		l[i] = v.Low + w.rnd.Int32N(v.High-v.Low+1)
		if near && w.rnd.IntN(6) == 0 {
			l[i] = w.rnd.Int32N(9) - 4
		}
	}
	return l
}

// sameAgain: what is told of a state is what the second stepping tells. Which error
// it was is counted, and whether there was more than one.
func sameAgain(t *testing.T, f check.Flat, in []int32, text string, seen map[fault]int) {
	t.Helper()
	s := second{f, in}
	wantHolds, flt := caught(s.holds)
	l, err := Holds(f, in)
	if flt == nil && (err != nil || !slices.Equal(l, wantHolds)) || flt != nil && (!isFault(err, flt) || len(l) != 0) {
		t.Fatalf("Holds(%s, %v): %v, %v; want %v, %v", text, in, l, err, wantHolds, flt)
	}
	want, flt := caught(s.ways)
	ways, err := Ways(f, in)
	if flt == nil && (err != nil || !sameWays(ways, want)) || flt != nil && (!isFault(err, flt) || len(ways) != 0) {
		t.Fatalf("Ways(%s, %v):\n%s, %v; want\n%s, %v", text, in, tellAll(ways), err, tellAll(want), flt)
	}
	if flt == nil {
		seen[fault{}]++
		return
	}
	seen[fault{errno: flt.errno, placed: flt.placed}]++
}

// sameWays: are they?
func sameWays(a, b []Way) bool {
	return len(a) == 0 && len(b) == 0 || reflect.DeepEqual(a, b)
}

// P12.1, P12.2, beside the second stepping.
func TestModelsByChance(t *testing.T) {
	rnd := rand.New(rand.NewPCG(12, 1))
	seen := map[fault]int{}
	for i := range 6000 {
		w := &writer{rnd: rnd, slips: []int{0, 60, 15}[i%3]}
		if i%50 == 0 {
			w.wide = []string{"rules", "branches"}[i/50%2]
		}
		text := w.model()
		f := laid(t, text)
		sameAgain(t, f, First(f), text, seen)
		for range 3 {
			sameAgain(t, f, w.anywhere(f, i%2 == 0), text, seen)
		}
	}
	for f, least := range map[fault]int{
		{}: 5000, {errno: api.ErrLong}: 50, {errno: api.ErrOver}: 100, {errno: api.ErrOver, placed: true}: 300, {errno: api.ErrRange, placed: true}: 300,
	} {
		if seen[f] < least {
			t.Errorf("%+v came %d times", f, seen[f])
		}
	}
}

// follows: of a state within the ranges all next ones are, too; all weights are 1 or
// more, and of one way's next states no two are the same. One of them is told.
func follows(t *testing.T, w *writer, f check.Flat, in []int32, text string) []int32 {
	t.Helper()
	l, err := Ways(f, in)
	if err != nil {
		return nil
	}
	var all [][]int32
	for _, way := range l {
		if len(way.Next) == 0 {
			t.Errorf("%s, %v: a way without an outcome", text, in)
		}
		for i, n := range way.Next {
			if n.Weight < 1 || len(n.State) != len(f.Vars) || slices.ContainsFunc(way.Next[:i], func(o Next) bool { return slices.Equal(o.State, n.State) }) {
				t.Fatalf("%s, %v: %s", text, in, tell(way))
			}
			for k, v := range f.Vars {
				if n.State[k] < v.Low || n.State[k] > v.High {
					t.Fatalf("%s, %v: %s, but it is from %d to %d", text, in, tell(way), v.Low, v.High)
				}
			}
			all = append(all, n.State)
		}
	}
	if len(all) == 0 {
		return nil
	}
	return one(w, all...)
}

// P12.3
func TestNextStatesAreWithinTheRanges(t *testing.T) {
	rnd := rand.New(rand.NewPCG(12, 3))
	steps := 0
	for i := range 4000 {
		w := &writer{rnd: rnd, slips: []int{0, 100, 20}[i%3]}
		text := w.model()
		f := laid(t, text)
		for in, left := First(f), 10; in != nil && left > 0; left-- {
			in = follows(t, w, f, in, text)
			steps++
		}
		follows(t, w, f, w.anywhere(f, false), text)
	}
	if steps < 15000 {
		t.Errorf("only %d steps", steps)
	}
	for _, s := range []string{
		"mdp module a x : [-2147483648..2147483647]; y : [2147483646..2147483647]; c : bool; [] true -> 9223372036854775807 : (x' = x + 1) + (x' = -x - 1) & (y' = y - 1) & (c' = x > y); endmodule",
		whole,
	} {
		w := &writer{rnd: rnd}
		f := laid(t, s)
		for range 300 {
			follows(t, w, f, w.anywhereGreat(f), s)
		}
	}
}

// anywhereGreat: a state within ranges that may have more than 32 bits of room; the
// ends come often.
func (w *writer) anywhereGreat(f check.Flat) []int32 {
	l := make([]int32, len(f.Vars))
	for i, v := range f.Vars {
		l[i] = one(w, v.Low, v.High, int32(int64(v.Low)+w.rnd.Int64N(int64(v.High)-int64(v.Low)+1)))
	}
	return l
}

// P12.2: the weights of a way add up to the product of what its rules' weights add
// up to, whatever becomes one.
func TestWeightsAddUp(t *testing.T) {
	rnd := rand.New(rand.NewPCG(12, 4))
	for range 1500 {
		w := &writer{rnd: rnd}
		text := w.model()
		f := laid(t, text)
		in := w.anywhere(f, false)
		l, err := Ways(f, in)
		if err != nil {
			t.Fatalf("Ways(%s, %v): %v", text, in, err)
		}
		taken := second{f, in}.taken()
		if len(taken) != len(l) {
			t.Fatalf("Ways(%s, %v): %d; want %d", text, in, len(l), len(taken))
		}
		for i, rules := range taken {
			want, sum := int64(1), int64(0)
			for _, r := range rules {
				all := int64(0)
				for _, b := range r.Branches {
					all += b.Weight
				}
				want *= all
			}
			for _, n := range l[i].Next {
				sum += n.Weight
			}
			if sum != want || l[i].Action != rules[0].Action {
				t.Fatalf("Ways(%s, %v): %s; want %d", text, in, tell(l[i]), want)
			}
		}
	}
}
