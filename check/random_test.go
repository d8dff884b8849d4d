package check

import (
	"errors"
	"math"
	"math/rand/v2"
	"reflect"
	"slices"
	"strconv"
	"strings"
	"testing"

	"sortilege/api"
	"sortilege/expr"
	"sortilege/fold"
	"sortilege/model"
	"sortilege/value"
)

// fault: an error at a place, as a panic.
type fault struct {
	errno api.Errno
	pos   int
}

// refuse: an error at a place.
func refuse(errno api.Errno, pos int) { panic(fault{errno, pos}) }

// told: what is told, or the fault by which it isn't.
func told[T any](do func() T) (x T, f *fault) {
	defer func() {
		if r := recover(); r != nil {
			told := r.(fault)
			f = &told
		}
	}()
	return do(), nil
}

// second: a second laying, in which variables are found by their names; faults are
// panics.
type second struct {
	slots map[string]Slot
	names []string // in order
}

// rules: of each Op what its kids must be, and what the whole is: n a number, t a
// truth, a either one, but the same one throughout.
const rules = `num::n true::t false::t neg:n:n !:t:t +:nn:n -:nn:n *:nn:n <:nn:t <=:nn:t >:nn:t >=:nn:t =:aa:t !=:aa:t &:tt:t |:tt:t =>:tt:t ?:taa:a`

// kind: of an expression, n or t.
func (s second) kind(e expr.Expr) string {
	if e.Op == "name" && len(e.Kids) == 0 {
		v, there := s.slots[e.Name]
		if !there {
			refuse(api.ErrName, e.Pos)
		}
		return kindOf(v.Bool)
	}
	kids, whole, ok := "", "", false
	for line := range strings.FieldsSeq(rules) {
		if op, rest, found := strings.Cut(line, ":"); found && op == e.Op {
			kids, whole, ok = strings.Cut(rest, ":")
		}
	}
	if !ok || len(kids) != len(e.Kids) {
		refuse(api.ErrArg, e.Pos)
	}
	for i := range e.Kids {
		kind := s.kind(e.Kids[i])
		if kids[i] == 'a' {
			kids, whole = strings.ReplaceAll(kids, "a", kind), strings.ReplaceAll(whole, "a", kind)
		}
		if kids[i:i+1] != kind {
			refuse(api.ErrType, e.Kids[i].Pos)
		}
	}
	return whole
}

// kindOf: n or t.
func kindOf(truth bool) string {
	if truth {
		return "t"
	}
	return "n"
}

// must: an expression must be of a kind.
func (s second) must(e expr.Expr, truth bool) expr.Expr {
	if s.kind(e) != kindOf(truth) {
		refuse(api.ErrType, e.Pos)
	}
	return e
}

// worthOf: a number, or 0 or 1, of an expression that must be of a kind.
func worthOf(e expr.Expr, truth bool) int64 {
	v, err := value.Eval(e, nil)
	var at *api.At
	if errors.As(err, &at) {
		refuse(at.Err.(api.Errno), at.Pos)
	}
	if v.Truth != truth {
		refuse(api.ErrType, e.Pos)
	}
	if v.Is {
		return 1
	}
	return v.N
}

// variable: one more.
func (s *second) variable(module int, v model.Var) Slot {
	if len(s.names) >= 16 {
		refuse(api.ErrLong, v.Pos)
	}
	low, high := int64(0), int64(1)
	if !v.Bool {
		low, high = worthOf(v.Low, false), worthOf(v.High, false)
	}
	if low != int64(int32(low)) || high != int64(int32(high)) || high < low {
		refuse(api.ErrRange, v.Pos)
	}
	first := low
	if v.HasInit {
		first = worthOf(v.Init, v.Bool)
	}
	if first > high || first < low {
		refuse(api.ErrRange, v.Init.Pos)
	}
	s.names = append(s.names, v.Name)
	s.slots[v.Name] = Slot{v.Name, module, v.Bool, int32(low), int32(high), int32(first)}
	return s.slots[v.Name]
}

// branch: its settings.
func (s second) branch(module int, b model.Branch) Branch {
	done := Branch{Weight: b.Weight}
	for i, set := range b.Sets {
		v, there := s.slots[set.Name]
		for _, other := range b.Sets[:i] {
			there = there && other.Name != set.Name
		}
		switch {
		case !there:
			refuse(api.ErrName, set.Pos)
		case v.Module != module:
			refuse(api.ErrOwner, set.Pos)
		}
		done.Sets = append(done.Sets, Set{slices.Index(s.names, set.Name), s.must(set.X, v.Bool)})
	}
	return done
}

// lay: a folded model.
func (s *second) lay(m model.Model) Flat {
	f := Flat{Modules: len(m.Modules)}
	for i, module := range m.Modules {
		for _, v := range module.Vars {
			f.Vars = append(f.Vars, s.variable(i, v))
		}
	}
	for _, d := range m.Labels {
		f.Labels = append(f.Labels, Label{d.Name, s.must(d.X, true)})
	}
	for i, module := range m.Modules {
		for _, c := range module.Commands {
			r := Rule{Module: i, Action: c.Action, Guard: s.must(c.Guard, true)}
			for _, b := range c.Branches {
				r.Branches = append(r.Branches, s.branch(i, b))
			}
			f.Rules = append(f.Rules, r)
		}
	}
	return f
}

// writer: writes models by chance.
type writer struct {
	rnd             *rand.Rand
	slips           int // of how many pieces one is wrong; none if 0
	numbers, truths []string
	all             []string // the variables
}

// one: some item.
func (w *writer) one(l ...string) string { return l[w.rnd.IntN(len(l))] }

// slip: is this piece wrong?
func (w *writer) slip() bool { return w.slips > 0 && w.rnd.IntN(w.slips) == 0 }

// often: is this piece wrong, of those that come seldom?
func (w *writer) often() bool { return w.slips > 0 && w.rnd.IntN(4) == 0 }

// write: an expression with about that many, a truth or a number, but for its slips.
func (w *writer) write(truth bool, size int) string {
	part := func(truth bool) string { return "(" + w.write(truth, size/2) + ")" }
	if w.slip() {
		truth = !truth
	}
	switch chance := w.rnd.IntN(12); {
	case size <= 1 && truth:
		return w.one(append(w.truths, "true", "false")...)
	case size <= 1:
		return w.one(append(w.numbers, strconv.Itoa(w.rnd.IntN(4)), w.one("1", "2", "9223372036854775807"))...)
	case chance == 0:
		return part(true) + " ? " + part(truth) + " : " + part(truth)
	case truth && chance < 3:
		return "!" + part(true)
	case truth && chance < 9:
		return part(true) + w.one(" & ", " | ", " => ", " = ", " != ") + part(true)
	case truth:
		return part(false) + w.one(" < ", " <= ", " > ", " >= ", " = ", " != ") + part(false)
	case chance < 3:
		return "-" + part(false)
	}
	return part(false) + w.one(" + ", " - ", " * ") + part(false)
}

// expression: of any size.
func (w *writer) expression(truth bool) string { return w.write(truth, 1+w.rnd.IntN(12)) }

// some: of the items, in any order.
func (w *writer) some(l []string) []string {
	l = slices.Clone(l)
	w.rnd.Shuffle(len(l), func(i, j int) { l[i], l[j] = l[j], l[i] })
	return l[:w.rnd.IntN(len(l)+1)]
}

// variable: of a name.
func (w *writer) variable(name string) string {
	if isTruth(name) {
		return name + " : bool" + w.one("", " init true", " init "+w.expression(true)) + "; "
	}
	low := w.rnd.IntN(5) - 2
	high := low + w.rnd.IntN(4)
	first := low + w.rnd.IntN(high-low+1)
	if w.slip() {
		high = low - w.rnd.IntN(2)
	}
	if w.slip() {
		first = w.rnd.IntN(9) - 4
	}
	bound := func(n int) string {
		return w.one("", "", "", "N < 2 ? "+w.expression(w.slip())+" : ") + strconv.Itoa(n)
	}
	return name + " : [" + bound(low) + ".." + bound(high) + "]" + w.one("", " init "+bound(first)) + "; "
}

// isTruth: is the variable with that name one?
func isTruth(name string) bool { return name[0] == 'b' }

// command: of a module with these variables.
func (w *writer) command(own []string) string {
	branch := func() string {
		names := w.some(own)
		if w.often() {
			names = append(names, w.one(append(w.all, "nobody", "N")...))
		}
		if len(names) == 0 {
			return w.one("true", "9 : true")
		}
		for i, name := range names {
			names[i] = "(" + name + "' = " + w.expression(isTruth(name)) + ")"
		}
		return w.one("", "2 : ", "13 : ") + strings.Join(names, " & ")
	}
	return "[" + w.one("", "go", "back") + "] " + w.expression(true) + " -> " + w.one(branch(), branch()+" + "+branch()) + "; "
}

// model: as a text of up to seven modules.
func (w *writer) model() string {
	w.numbers, w.truths = []string{"N"}, []string{"T"}
	own := make([][]string, w.rnd.IntN(8))
	vars := make([]string, len(own))
	count := 0
	for i := range own {
		for range w.rnd.IntN(7) {
			name := w.one("x", "b") + strconv.Itoa(count)
			count++
			own[i] = append(own[i], name)
			vars[i] += w.variable(name)
		}
		if count > 10 && w.slips == 0 {
			// Another module might bring the 17th.
			break
		}
	}
	w.all = slices.Concat(own...)
	for _, name := range w.all {
		if isTruth(name) {
			w.truths = append(w.truths, name)
		} else {
			w.numbers = append(w.numbers, name)
		}
	}
	s := "mdp const N = 2; const T = N > 1; formula f = " + w.expression(false) + "; formula p = " + w.expression(true) + "; "
	w.numbers, w.truths = append(w.numbers, "f"), append(w.truths, "p")
	for i := range own {
		s += "module m" + strconv.Itoa(i) + " " + vars[i]
		for range w.rnd.IntN(3) {
			s += w.command(own[i])
		}
		s += "endmodule "
	}
	for i := range w.rnd.IntN(3) {
		s += "label \"" + strconv.Itoa(i) + "\" = " + w.expression(true) + "; "
	}
	return s
}

// byChance: calls with models of no slips, some and many, by turns.
func byChance(t *testing.T, seed uint64, times int, try func(w *writer, m model.Model)) {
	t.Helper()
	rnd := rand.New(rand.NewPCG(10, seed))
	for i := range times {
		w := &writer{rnd: rnd, slips: []int{0, 300, 40}[i%3]}
		try(w, read(t, w.model()))
	}
}

// enough: each of these came so many times.
func enough(t *testing.T, seen map[api.Errno]int, times int, l ...api.Errno) {
	t.Helper()
	for _, errno := range l {
		if seen[errno] < times {
			t.Errorf("the error %d came %d times", errno, seen[errno])
		}
	}
}

// P10.2, beside the second laying.
func TestModelsByChance(t *testing.T) {
	seen := map[api.Errno]int{}
	byChance(t, 2, 6000, func(_ *writer, m model.Model) {
		x, err := fold.Fold(m)
		if err != nil {
			if f, other := Lay(m); !reflect.DeepEqual(f, Flat{}) || !reflect.DeepEqual(other, err) {
				t.Fatalf("Lay(%s): %+v, %v; want %v", model.Print(m), f, other, err)
			}
			return
		}
		s := &second{slots: map[string]Slot{}}
		right, f := told(func() Flat { return s.lay(x) })
		if f != nil {
			layFails(t, m, f.errno, f.pos)
			seen[f.errno]++
			return
		}
		if other, err := Lay(m); err != nil || !reflect.DeepEqual(other, right) {
			t.Fatalf("Lay(%s): %+v, %v; want %+v", model.Print(m), other, err, right)
		}
		seen[0]++
	})
	enough(t, seen, 30, 0, api.ErrLong, api.ErrName, api.ErrType, api.ErrRange, api.ErrOwner, api.ErrOver)
}

// spoilt: an expression in which some are made wrong, each of which has a place of
// its own behind those ahead of it.
func (w *writer) spoilt(e expr.Expr, pos *int) expr.Expr {
	*pos += 1 + w.rnd.IntN(2)
	e.Pos = *pos
	e.Kids = slices.Clone(e.Kids)
	for i := range e.Kids {
		e.Kids[i] = w.spoilt(e.Kids[i], pos)
	}
	if !w.slip() {
		return e
	}
	switch w.rnd.IntN(4) {
	case 0:
		e.Op = w.one("", "/", "num", "name", "true", "false", "neg", "!", "+", "<=", "=", "&", "=>", "?")
	case 1:
		e.Kids = append(e.Kids, name("x0"))
	case 2:
		e.Kids = e.Kids[:len(e.Kids)/2]
	case 3:
		e.Name = w.one("nobody", "x1", "b1")
	}
	return e
}

// P10.1, beside the second laying's.
func TestKindsByChance(t *testing.T) {
	rnd := rand.New(rand.NewPCG(10, 1))
	seen := map[api.Errno]int{}
	l := []Slot{{Name: "x0"}, {Name: "b0", Bool: true}, {Name: "x1", Module: 1}, {Name: "x0", Bool: true}, {Name: "b1", Bool: true}, {Name: "b0"}}
	s := second{slots: map[string]Slot{"x0": l[0], "b0": l[1], "x1": l[2], "b1": l[4]}}
	for i := range 20000 {
		w := &writer{rnd: rnd, slips: []int{0, 60, 12}[i%3], numbers: []string{"x0", "x1"}, truths: []string{"b0", "b1"}}
		e := w.spoilt(readExpr(t, w.write(rnd.IntN(2) == 0, 1+rnd.IntN(40))), new(int))
		kind, f := told(func() string { return s.kind(e) })
		if f != nil {
			noKind(t, e, l, f.errno, f.pos)
			seen[f.errno]++
			continue
		}
		isKind(t, e, l, kind == "t")
		seen[0]++
	}
	enough(t, seen, 100, 0, api.ErrName, api.ErrType, api.ErrArg)
}

// expressions: those of a flat model, with what they must be.
func expressions(f Flat) (l []expr.Expr, truths []bool) {
	for _, d := range f.Labels {
		l, truths = append(l, d.X), append(truths, true)
	}
	for _, r := range f.Rules {
		l, truths = append(l, r.Guard), append(truths, true)
		for _, b := range r.Branches {
			for _, s := range b.Sets {
				l, truths = append(l, s.X), append(truths, f.Vars[s.Var].Bool)
			}
		}
	}
	return l, truths
}

// values: of each variable one of its range; the ends come often.
func values(rnd *rand.Rand, f Flat) []value.Bind {
	var l []value.Bind
	for _, v := range f.Vars {
		n := int64(v.Low) + rnd.Int64N(int64(v.High)-int64(v.Low)+1)
		switch rnd.IntN(5) {
		case 0:
			n = int64(v.Low)
		case 1:
			n = int64(v.High)
		case 2:
			n = int64(v.Init)
		}
		if v.Bool {
			l = append(l, value.Bind{Name: v.Name, V: value.Truth(n != 0)})
		} else {
			l = append(l, value.Bind{Name: v.Name, V: value.Number(n)})
		}
	}
	return l
}

// sound: all that a flat model has is worth something of its kind, or is too great,
// whatever the variables are. How often it was either is told.
func sound(t *testing.T, rnd *rand.Rand, f Flat) (worth, over int) {
	t.Helper()
	l, truths := expressions(f)
	for i, e := range l {
		isKind(t, e, f.Vars, truths[i])
		for range 20 {
			vars := values(rnd, f)
			v, err := value.Eval(e, vars)
			switch {
			case err == nil && v.Truth == truths[i]:
				worth++
			case errors.Is(err, api.ErrOver):
				over++
			default:
				t.Errorf("%s of %v: %+v, %v", expr.Print(e), vars, v, err)
			}
		}
	}
	return worth, over
}

// P10.3
func TestFlatModelsAreSound(t *testing.T) {
	rnd := rand.New(rand.NewPCG(10, 3))
	for _, s := range []string{whole, sets("(x' = b ? y : u + p) & (b' = v = q) + (y' = -x) & (c' = x < y => b)"), modules(8, 8)} {
		if _, over := sound(t, rnd, laid(t, s)); over != 0 {
			t.Errorf("%s: something is too great", s)
		}
	}
	const great = `mdp const M = 2147483647; formula f = x * y; module m x : [-M - 1..M]; y : [-M - 1..M] init M; b : bool;
		[] f * f * f > 0 -> (x' = f * f) & (b' = f * f * x = y); endmodule label "a" = f + f > 0 & f * f * f < f;`
	if worth, over := sound(t, rnd, laid(t, great)); worth == 0 || over == 0 {
		t.Errorf("of %s %d are worth something, %d too great", great, worth, over)
	}
	over, models := 0, 0
	byChance(t, 4, 3000, func(w *writer, m model.Model) {
		f, err := Lay(m)
		if err != nil {
			return
		}
		_, n := sound(t, w.rnd, f)
		over += min(n, 1)
		models++
	})
	if over < 50 || models < 500 {
		t.Errorf("%d models, in %d of which something is too great", models, over)
	}
}

// P10.2: all slots are within their ranges, and these are of 32 bits.
func TestSlotsByChance(t *testing.T) {
	edges := []int64{math.MinInt64, math.MinInt32 - 1, math.MinInt32, math.MinInt32 + 1, -1, 0, 1, math.MaxInt32 - 1, math.MaxInt32, math.MaxInt32 + 1, 1 << 32, math.MaxInt64}
	for _, low := range edges {
		for _, high := range edges {
			for _, first := range edges {
				m := byHand([]model.Var{{Name: "v", Low: num(low), High: num(high), Init: at(7, num(first)), HasInit: true, Pos: 5}})
				f, err := Lay(m)
				switch {
				case low < math.MinInt32 || high > math.MaxInt32 || low > high:
					layFails(t, m, api.ErrRange, 5)
				case first < low || first > high:
					layFails(t, m, api.ErrRange, 7)
				case err != nil || f.Vars[2] != Slot{Name: "v", Low: int32(low), High: int32(high), Init: int32(first)}:
					t.Errorf("[%d..%d] init %d: %+v, %v", low, high, first, f, err)
				}
			}
		}
	}
}
