package fold

import (
	"math/rand/v2"
	"reflect"
	"slices"
	"strconv"
	"testing"

	"sortilege/api"
	"sortilege/expr"
	"sortilege/model"
	"sortilege/value"
)

// fault: an error at a place, as a panic.
type fault struct {
	errno api.Errno
	pos   int
}

// second: a second folding, by calls within calls; faults are panics.
type second struct {
	m     model.Model
	asked map[string]bool
}

// refuse: an error at a place.
func refuse(errno api.Errno, pos int) { panic(fault{errno, pos}) }

// definition: that of a name among some.
func definition(l []model.Def, name string) (model.Def, bool) {
	i := slices.IndexFunc(l, func(d model.Def) bool { return d.Name == name })
	if i < 0 {
		return model.Def{}, false
	}
	return l[i], true
}

// within: does something for a name that isn't asked yet, which is until then.
func (s second) within(name string, pos int, do func()) {
	if s.asked[name] {
		refuse(api.ErrCycle, pos)
	}
	s.asked[name] = true
	do()
	delete(s.asked, name)
}

// constant: the value of a name that is asked at a place.
func (s second) constant(name string, pos int) (v value.Value) {
	d, there := definition(s.m.Consts, name)
	if !there {
		refuse(api.ErrName, pos)
	}
	s.within(name, pos, func() { v = reckon(d.X, d.X.Pos, s.constant) })
	return v
}

// state: what a name is worth that is asked at a place, where variables have
// values.
func (s second) state(vars []value.Bind) func(name string, pos int) value.Value {
	return func(name string, pos int) value.Value {
		if d, there := definition(s.m.Formulas, name); there {
			return reckon(d.X, pos, s.state(vars))
		}
		for _, b := range vars {
			if b.Name == name {
				return b.V
			}
		}
		return s.constant(name, pos)
	}
}

// reckon: an expression that stands at a place, by what names are worth.
func reckon(e expr.Expr, pos int, worth func(name string, pos int) value.Value) value.Value {
	kid := func(i int) value.Value { return reckon(e.Kids[i], e.Kids[i].Pos, worth) }
	is := func(i int) bool {
		v := kid(i)
		if !v.Truth {
			refuse(api.ErrType, e.Kids[i].Pos)
		}
		return v.Is
	}
	switch e.Op {
	case "name":
		return worth(e.Name, pos)
	case "&":
		return value.Truth(is(0) && is(1))
	case "|":
		return value.Truth(is(0) || is(1))
	case "=>":
		return value.Truth(!is(0) || is(1))
	case "?":
		if is(0) {
			return kid(1)
		}
		return kid(2)
	}
	// Of all others each kid is asked: value reckons with what they are worth.
	whole := expr.Expr{Op: e.Op, N: e.N, Pos: pos}
	for i := range e.Kids {
		v := kid(i)
		if numbers := e.Op != "!" && e.Op != "=" && e.Op != "!="; numbers == v.Truth && (numbers || e.Op == "!") {
			refuse(api.ErrType, e.Kids[i].Pos)
		}
		whole.Kids = append(whole.Kids, written(v, e.Kids[i].Pos))
	}
	v, err := value.Eval(whole, nil)
	if err != nil {
		at := err.(*api.At)
		refuse(at.Err.(api.Errno), at.Pos)
	}
	return v
}

// written: a value as an expression.
func written(v value.Value, pos int) expr.Expr {
	if v.Truth {
		return expr.Expr{Op: strconv.FormatBool(v.Is), Pos: pos}
	}
	return expr.Expr{Op: "num", N: v.N, Pos: pos}
}

// expand: an expression, expanded, but for how long it is; bound tells that only
// constants may be asked.
func (s second) expand(e expr.Expr, bound bool) expr.Expr {
	if e.Op != "name" {
		var kids []expr.Expr
		for _, kid := range e.Kids {
			kids = append(kids, s.expand(kid, bound))
		}
		e.Kids = kids
		return e
	}
	if _, there := definition(s.m.Consts, e.Name); there {
		return written(s.constant(e.Name, e.Pos), e.Pos)
	}
	for _, m := range s.m.Modules {
		if !bound && slices.ContainsFunc(m.Vars, func(v model.Var) bool { return v.Name == e.Name }) {
			return e
		}
	}
	d, there := definition(s.m.Formulas, e.Name)
	if !there || bound {
		refuse(api.ErrName, e.Pos)
	}
	var x expr.Expr
	s.within(d.Name, e.Pos, func() { x = s.short(d.X, false) })
	x.Pos = e.Pos
	return x
}

// short: likewise, and it mustn't be too long.
func (s second) short(e expr.Expr, bound bool) expr.Expr {
	x := s.expand(e, bound)
	if expr.Size(x) > api.MaxSize {
		refuse(api.ErrLong, e.Pos)
	}
	return x
}

// once: each name is there once.
func (s second) once() {
	seen := map[string]bool{}
	look := func(space, name string, pos int) {
		if seen[space+name] {
			refuse(api.ErrName, pos)
		}
		seen[space+name] = true
	}
	for _, d := range slices.Concat(s.m.Consts, s.m.Formulas) {
		look("name ", d.Name, d.Pos)
	}
	for _, m := range s.m.Modules {
		for _, v := range m.Vars {
			look("name ", v.Name, v.Pos)
		}
	}
	for _, d := range s.m.Labels {
		look("label ", d.Name, d.Pos)
	}
	for _, m := range s.m.Modules {
		look("module ", m.Name, m.Pos)
	}
}

// consts: as Consts tells them.
func (s second) consts() (l []value.Bind) {
	s.once()
	for _, d := range s.m.Consts {
		l = append(l, value.Bind{Name: d.Name, V: s.constant(d.Name, d.Pos)})
	}
	return l
}

// fold: as Fold tells it.
func (s second) fold() (x model.Model) {
	s.consts()
	for _, d := range s.m.Formulas {
		s.within(d.Name, 0, func() { s.short(d.X, false) })
	}
	for _, d := range s.m.Labels {
		x.Labels = append(x.Labels, model.Def{Name: d.Name, X: s.short(d.X, false), Pos: d.Pos})
	}
	for _, m := range s.m.Modules {
		m.Vars, m.Commands = slices.Clone(m.Vars), slices.Clone(m.Commands)
		for i, v := range m.Vars {
			m.Vars[i].Low, m.Vars[i].High, m.Vars[i].Init = s.short(v.Low, true), s.short(v.High, true), s.short(v.Init, true)
		}
		for i, c := range m.Commands {
			m.Commands[i].Guard = s.short(c.Guard, false)
			m.Commands[i].Branches = slices.Clone(c.Branches)
			for k, b := range c.Branches {
				b.Sets = slices.Clone(b.Sets)
				for n, set := range b.Sets {
					b.Sets[n].X = s.short(set.X, false)
				}
				m.Commands[i].Branches[k] = b
			}
		}
		x.Modules = append(x.Modules, m)
	}
	return x
}

// told: what is found out, or the fault.
func told[T any](do func() T) (x T, f *fault) {
	defer func() {
		if r := recover(); r != nil {
			is := r.(fault)
			f = &is
		}
	}()
	return do(), nil
}

// writer: makes models by chance.
type writer struct {
	rnd   *rand.Rand
	slips int // of how many things one is wrong; none if 0
	// The names that may be asked, of numbers and of truths, and what is wrong.
	numbers, truths, wrong []string
}

// one of some texts.
func (w *writer) one(l ...string) string { return l[w.rnd.IntN(len(l))] }

// slip: is the next thing wrong?
func (w *writer) slip() bool { return w.slips > 0 && w.rnd.IntN(w.slips) == 0 }

// write: an expression of about that many, as a text.
func (w *writer) write(isTruth bool, size int) string {
	if w.slip() {
		isTruth = !isTruth
	}
	part := func(isTruth bool) string { return "(" + w.write(isTruth, size/2) + ")" }
	switch chance := w.rnd.IntN(12); {
	case w.slip():
		return w.one(w.wrong...)
	case size <= 1 && isTruth:
		return w.one(append(w.truths, "true", "false")...)
	case size <= 1:
		return w.one(append(w.numbers, strconv.Itoa(w.rnd.IntN(4)))...)
	case chance == 0:
		return part(true) + " ? " + part(isTruth) + " : " + part(isTruth)
	case isTruth && chance < 3:
		return "!" + part(true)
	case isTruth && chance < 9:
		return part(true) + w.one(" & ", " | ", " => ", " = ", " != ") + part(true)
	case isTruth:
		return part(false) + w.one(" < ", " <= ", " > ", " >= ", " = ", " != ") + part(false)
	case chance < 3:
		return "-" + part(false)
	}
	return part(false) + w.one(" + ", " - ", " * ") + part(false)
}

// expression: of any size.
func (w *writer) expression(isTruth bool) string { return w.write(isTruth, 1+w.rnd.IntN(12)) }

// defined: names with what they are, some of which may be asked by those ahead of
// them, too.
func (w *writer) defined(word string, numbers, truths []string) string {
	s := ""
	for i := range numbers {
		for _, isTruth := range []bool{false, true} {
			name := numbers[i]
			if isTruth {
				name = truths[i]
			}
			text := word + " " + name + " = " + w.expression(isTruth) + ";\n"
			if w.rnd.IntN(3) > 0 {
				s = text + s
			} else {
				s += text
			}
			if w.slip() {
				s += word + " " + w.one("A", "B", "f", "x", "new") + " = 1;\n"
			}
			if isTruth {
				w.truths = append(w.truths, name)
			} else {
				w.numbers = append(w.numbers, name)
			}
		}
	}
	return s
}

// model: as a text.
func (w *writer) model() string {
	w.numbers, w.truths = nil, nil
	w.wrong = []string{"nobody", "A", "B", "T", "f", "y", "9223372036854775807 * 2", "9223372036854775807 + 1", "-9223372036854775807 - 2"}
	s := w.defined("const", []string{"A", "B", "C"}, []string{"T", "U", "V"})
	bounds := [4]string{w.expression(false), w.expression(false), w.expression(false), w.expression(true)}
	if w.slip() {
		bounds[w.rnd.IntN(4)] += w.one(" + x", " & f", " + nobody", " - q")
	}
	w.numbers, w.truths = append(w.numbers, "x", "v"), append(w.truths, "y", "z")
	w.wrong = []string{"nobody", "f", "g", "p", "q", "huge - huge", "9223372036854775807 * 2"}
	s += w.defined("formula", []string{"f", "g", "h"}, []string{"p", "q", "r"})
	if w.slips > 0 {
		s += "formula huge = " + ones(1100) + ";\n"
	}
	s += "label \"a\" = " + w.expression(true) + ";\nlabel \"b\" = " + w.expression(false) + ";\n"
	s += "module m\nx : [" + bounds[0] + ".." + bounds[1] + "] init " + bounds[2] + ";\ny : bool init " + bounds[3] + ";\n"
	s += "[] " + w.expression(true) + " -> (x' = " + w.expression(false) + ") & (y' = " + w.expression(true) + ") + 3 : true;\nendmodule\n"
	s += "module " + w.one("n", "n", "n", "n", "n", "n", "n", "n", "A", "m") + "\nv : [0..9];\nz : bool;\n[go] true -> (z' = " + w.expression(true) + ");\nendmodule\n"
	return "mdp " + s
}

// byChance: calls with models of no slips, some and many, by turns.
func byChance(t *testing.T, seed uint64, times int, try func(w *writer, m model.Model)) {
	rnd := rand.New(rand.NewPCG(9, seed))
	for i := range times {
		w := &writer{rnd: rnd, slips: []int{0, 300, 80}[i%3]}
		try(w, read(t, w.model()))
	}
}

// P9.1 and P9.2, beside the second folding.
func TestModelsByChance(t *testing.T) {
	seen := map[api.Errno]int{}
	byChance(t, 1, 3000, func(_ *writer, m model.Model) {
		s := second{m, map[string]bool{}}
		if l, f := told(s.consts); f != nil {
			constsFail(t, m, f.errno, f.pos)
			seen[f.errno]++
			return
		} else if other, err := Consts(m); err != nil || !slices.Equal(other, l) {
			t.Fatalf("Consts(%s): %v, %v; want %v", short(model.Print(m)), other, err, l)
		}
		s.asked = map[string]bool{}
		x, f := told(s.fold)
		if f != nil {
			foldFails(t, m, f.errno, f.pos)
			seen[f.errno]++
			return
		}
		if other, err := Fold(m); err != nil || !reflect.DeepEqual(other, x) {
			t.Fatalf("Fold(%s): %+v, %v; want %+v", model.Print(m), other, err, x)
		}
		seen[0]++
	})
	for _, errno := range []api.Errno{0, api.ErrName, api.ErrCycle, api.ErrLong, api.ErrType, api.ErrOver} {
		if seen[errno] < 50 {
			t.Errorf("the error %d came %d times", errno, seen[errno])
		}
	}
}

// expressions: those of labels, guards and settings, in order.
func expressions(m model.Model) []expr.Expr {
	var l []expr.Expr
	for _, d := range m.Labels {
		l = append(l, d.X)
	}
	for _, module := range m.Modules {
		for _, c := range module.Commands {
			l = append(l, c.Guard)
			for _, b := range c.Branches {
				for _, set := range b.Sets {
					l = append(l, set.X)
				}
			}
		}
	}
	return l
}

// bounds: those of variables, in order.
func bounds(m model.Model) []expr.Expr {
	var l []expr.Expr
	for _, module := range m.Modules {
		for _, v := range module.Vars {
			l = append(l, v.Init, v.Low, v.High)
		}
	}
	return l
}

// P9.3, by chance: folded again a model is the same, and each of its expressions
// is worth the same as before.
func TestFoldedModelsByChance(t *testing.T) {
	seen := map[api.Errno]int{}
	byChance(t, 3, 1500, func(w *writer, m model.Model) {
		x, err := Fold(m)
		if err != nil {
			return
		}
		if again, err := Fold(x); err != nil || !reflect.DeepEqual(again, x) {
			t.Fatalf("Fold(%s) again: %s, %v", model.Print(m), model.Print(again), err)
		}
		vars := []value.Bind{
			num("x", w.rnd.Int64N(5)-2), num("v", w.rnd.Int64()), truth("y", w.rnd.IntN(2) == 0), truth("z", w.rnd.IntN(2) == 0),
		}
		s := second{m, map[string]bool{}}
		after := append(expressions(x), bounds(x)...)
		for i, e := range append(expressions(m), bounds(m)...) {
			if e.Op == "" {
				continue
			}
			right, f := told(func() value.Value { return reckon(e, e.Pos, s.state(vars)) })
			v, err := value.Eval(after[i], vars)
			if f == nil && (v != right || err != nil) {
				t.Fatalf("%s: %s: %v, %v; before %v", model.Print(m), expr.Print(after[i]), v, err, right)
			}
			if f != nil && !isAt(err, f.errno, f.pos) {
				t.Fatalf("%s: %s: %v, %v; before %v", model.Print(m), expr.Print(after[i]), v, err, *f)
			}
			if f == nil {
				f = &fault{}
			}
			seen[f.errno]++
		}
	})
	for _, errno := range []api.Errno{0, api.ErrType, api.ErrOver} {
		if seen[errno] < 50 {
			t.Errorf("the error %d came %d times", errno, seen[errno])
		}
	}
}
