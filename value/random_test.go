package value

import (
	"iter"
	"math/big"
	"math/rand/v2"
	"slices"
	"strconv"
	"testing"

	"sortilege/api"
	"sortilege/expr"
)

// fault: an error at a place, as a panic.
type fault struct {
	errno api.Errno
	pos   int
}

// second: a second reckoning by the names' values, with numbers without an end
// and truths of Go's own; faults are panics.
type second map[string]Value

// number: of an expression that must be one.
func (s second) number(e expr.Expr) *big.Int {
	n, ok := s.worth(e).(*big.Int)
	if !ok {
		panic(fault{api.ErrType, e.Pos})
	}
	return n
}

// truth: of an expression that must be one.
func (s second) truth(e expr.Expr) bool {
	is, ok := s.worth(e).(bool)
	if !ok {
		panic(fault{api.ErrType, e.Pos})
	}
	return is
}

// order: of two numbers.
func (s second) order(e expr.Expr) int {
	return s.number(e.Kids[0]).Cmp(s.number(e.Kids[1]))
}

// alike: are two of one kind one?
func (s second) alike(e expr.Expr) bool {
	left := s.worth(e.Kids[0])
	switch right := s.worth(e.Kids[1]).(type) {
	case bool:
		if is, ok := left.(bool); ok {
			return is == right
		}
	case *big.Int:
		if n, ok := left.(*big.Int); ok {
			return n.Cmp(right) == 0
		}
	}
	panic(fault{api.ErrType, e.Kids[1].Pos})
}

// sum: two numbers put together.
func (s second) sum(e expr.Expr, put func(z, x, y *big.Int) *big.Int) *big.Int {
	return fits(e, put(new(big.Int), s.number(e.Kids[0]), s.number(e.Kids[1])))
}

// fits: a number that must be one of 64 bits.
func fits(e expr.Expr, n *big.Int) *big.Int {
	if !n.IsInt64() {
		panic(fault{api.ErrOver, e.Pos})
	}
	return n
}

// named: what a name is bound to.
func (s second) named(e expr.Expr) any {
	v, ok := s[e.Name]
	switch {
	case !ok:
		panic(fault{api.ErrName, e.Pos})
	case v.Truth:
		return v.Is
	}
	return big.NewInt(v.N)
}

// worth: a *big.Int or a bool.
func (s second) worth(e expr.Expr) any {
	switch e.Op + strconv.Itoa(len(e.Kids)) {
	case "num0":
		return big.NewInt(e.N)
	case "name0":
		return s.named(e)
	case "true0":
		return true
	case "false0":
		return false
	case "neg1":
		return fits(e, new(big.Int).Neg(s.number(e.Kids[0])))
	case "!1":
		return !s.truth(e.Kids[0])
	case "+2":
		return s.sum(e, (*big.Int).Add)
	case "-2":
		return s.sum(e, (*big.Int).Sub)
	case "*2":
		return s.sum(e, (*big.Int).Mul)
	case "<2":
		return s.order(e) < 0
	case "<=2":
		return s.order(e) <= 0
	case ">2":
		return s.order(e) > 0
	case ">=2":
		return s.order(e) >= 0
	case "=2":
		return s.alike(e)
	case "!=2":
		return !s.alike(e)
	case "&2":
		return s.truth(e.Kids[0]) && s.truth(e.Kids[1])
	case "|2":
		return s.truth(e.Kids[0]) || s.truth(e.Kids[1])
	case "=>2":
		return !s.truth(e.Kids[0]) || s.truth(e.Kids[1])
	case "?3":
		if s.truth(e.Kids[0]) {
			return s.worth(e.Kids[1])
		}
		return s.worth(e.Kids[2])
	}
	panic(fault{api.ErrArg, e.Pos})
}

// judged: the second reckoning's value, or its fault.
func judged(e expr.Expr, l []Bind) (v Value, f *fault) {
	defer func() {
		if r := recover(); r != nil {
			told := r.(fault)
			v, f = Value{}, &told
		}
	}()
	names := second{}
	for _, b := range slices.Backward(l) {
		names[b.Name] = b.V
	}
	if is, ok := names.worth(e).(bool); ok {
		return Value{Truth: true, Is: is}, nil
	}
	return Value{N: names.number(e).Int64()}, nil
}

// writer: makes expressions by chance, each with a place of its own.
type writer struct {
	rnd    *rand.Rand
	places int
	slips  int // of how many expressions one is wrong; none if 0
	edges  []int64
}

// writers: one with no slips, one with some and one with many, by turns.
func writers(rnd *rand.Rand, times int) iter.Seq[*writer] {
	return func(yield func(*writer) bool) {
		l := edges()
		for i := range times {
			if !yield(&writer{rnd: rnd, slips: []int{0, 60, 12}[i%3], edges: l}) {
				return
			}
		}
	}
}

// oneOf: some item.
func oneOf[T any](w *writer, l ...T) T {
	return l[w.rnd.IntN(len(l))]
}

// write: an expression with about that many, which is a truth or a number, but
// for its slips.
func (w *writer) write(truth bool, size int) expr.Expr {
	pos := w.places
	w.places += 1 + w.rnd.IntN(3)
	slip := w.slips > 0 && w.rnd.IntN(w.slips) == 0
	if slip && w.rnd.IntN(2) == 0 {
		truth = !truth
	}
	e := at(pos, w.whole(truth, size))
	if slip {
		w.spoil(&e)
	}
	return e
}

// whole: likewise, without a place.
func (w *writer) whole(truth bool, size int) expr.Expr {
	rest := (size - 1) / 2
	switch {
	case size <= 1 && truth:
		return oneOf(w, word(true), word(false), name("b"), name("c"), name("d"))
	case size <= 1:
		return oneOf(w, num(w.rnd.Int64N(9)-4), num(oneOf(w, w.edges...)), name("x"), name("y"), name("z"))
	case w.rnd.IntN(6) == 0:
		return of("?", w.write(true, rest), w.write(truth, rest), w.write(truth, rest))
	case truth && w.rnd.IntN(5) == 0:
		return of("!", w.write(true, size-1))
	case truth && w.rnd.IntN(2) == 0:
		return of(oneOf(w, junctions...), w.write(true, rest), w.write(true, rest))
	case truth && w.rnd.IntN(3) == 0:
		return of(oneOf(w, equalities...), w.write(true, rest), w.write(true, rest))
	case truth:
		return of(oneOf(w, slices.Concat(comparisons, equalities)...), w.write(false, rest), w.write(false, rest))
	case w.rnd.IntN(5) == 0:
		return of("neg", w.write(false, size-1))
	}
	return of(oneOf(w, sums...), w.write(false, rest), w.write(false, rest))
}

// spoil: makes something wrong of it, or maybe not.
func (w *writer) spoil(e *expr.Expr) {
	switch w.rnd.IntN(5) {
	case 0:
		e.Op = oneOf(w, slices.Concat(opsOf(0), opsOf(1), opsOf(2), opsOf(3), []string{"", "/"})...)
	case 1:
		e.Kids = append(e.Kids, w.write(true, 1))
	case 2:
		e.Kids = e.Kids[:len(e.Kids)/2]
	case 3:
		e.Name = "nobody"
	}
}

// bindings: of names that expressions ask, some of them twice or of the other
// kind, and some of them not at all.
func (w *writer) bindings() []Bind {
	l := []Bind{}
	for _, s := range []string{"x", "y", "z", "x"} {
		l = append(l, Bind{s, Number(oneOf(w, w.rnd.Int64N(9)-4, oneOf(w, w.edges...)))})
	}
	for _, s := range []string{"b", "c", "d", "b"} {
		l = append(l, Bind{s, Truth(w.rnd.IntN(2) == 0)})
	}
	w.rnd.Shuffle(len(l), func(i, j int) { l[i], l[j] = l[j], l[i] })
	if w.slips > 0 {
		l = append([]Bind{{oneOf(w, "x", "b", "q", "r", "s"), Number(1)}}, l[w.rnd.IntN(3):]...)
	}
	return l
}

// P8.1, beside the second reckoning.
func TestExpressionsByChance(t *testing.T) {
	rnd := rand.New(rand.NewPCG(8, 1))
	seen := map[api.Errno]int{}
	for w := range writers(rnd, 30000) {
		e := w.write(rnd.IntN(2) == 0, 1+rnd.IntN(60))
		l := w.bindings()
		right, f := judged(e, l)
		if f == nil {
			worth(t, e, l, right)
			seen[0]++
			continue
		}
		wrongAt(t, e, l, f.errno, f.pos)
		seen[f.errno]++
	}
	for _, errno := range []api.Errno{0, api.ErrName, api.ErrType, api.ErrOver, api.ErrArg} {
		if seen[errno] < 500 {
			t.Errorf("the error %d came %d times", errno, seen[errno])
		}
	}
}

// P8.3, by chance.
func TestOtherNamesByChance(t *testing.T) {
	rnd := rand.New(rand.NewPCG(8, 3))
	for w := range writers(rnd, 6000) {
		e := w.write(rnd.IntN(2) == 0, 1+rnd.IntN(60))
		l := w.bindings()
		right, f := judged(e, l)
		for range rnd.IntN(6) {
			other := Bind{oneOf(w, "xx", "B", "other", "true", "num"), oneOf(w, Number(7), Truth(true))}
			l = slices.Insert(l, rnd.IntN(len(l)+1), other)
		}
		if f == nil {
			worth(t, e, l, right)
			continue
		}
		wrongAt(t, e, l, f.errno, f.pos)
	}
}
