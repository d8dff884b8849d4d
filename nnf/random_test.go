package nnf

import (
	"math/rand/v2"
	"strconv"
	"testing"

	"sortilege/api"
	"sortilege/lasso"
	"sortilege/prop"
)

// n and d: N and D of a formula, each by the chapter's words.
func n(f prop.Formula) prop.Formula {
	k := f.Kids
	switch f.Op {
	case "!":
		return d(k[0])
	case "&", "|", "U", "R":
		return of(f.Op, n(k[0]), n(k[1]))
	case "X":
		return of("X", n(k[0]))
	case "=>", "F", "G", "W":
		return n(instead(f))
	}
	return prop.Formula{Op: f.Op, Name: f.Name}
}

func d(f prop.Formula) prop.Formula {
	k := f.Kids
	switch f.Op {
	case "true":
		return of("false")
	case "false":
		return of("true")
	case "label":
		return of("!", n(f))
	case "!":
		return n(k[0])
	case "&":
		return of("|", d(k[0]), d(k[1]))
	case "|":
		return of("&", d(k[0]), d(k[1]))
	case "U":
		return of("R", d(k[0]), d(k[1]))
	case "R":
		return of("U", d(k[0]), d(k[1]))
	case "X":
		return of("X", d(k[0]))
	}
	return d(instead(f))
}

// instead: what a formula is as.
func instead(f prop.Formula) prop.Formula {
	k := f.Kids
	switch f.Op {
	case "=>":
		return of("|", of("!", k[0]), k[1])
	case "F":
		return of("U", of("true"), k[0])
	case "G":
		return of("R", of("false"), k[0])
	}
	return of("R", k[1], of("|", k[0], k[1]))
}

// long: how many Formulas n and d have, 9999 at most.
func long(f prop.Formula) (so, isnt int) {
	switch f.Op {
	case "true", "false":
		return 1, 1
	case "label":
		return 1, 2
	case "!":
		isnt, so = long(f.Kids[0])
	case "X", "F", "G":
		so, isnt = long(f.Kids[0])
		so, isnt = so+1, isnt+1
		if f.Op != "X" {
			so, isnt = so+1, isnt+1
		}
	default:
		left, leftNot := long(f.Kids[0])
		right, rightNot := long(f.Kids[1])
		switch f.Op {
		case "=>":
			left, leftNot = leftNot, left
		case "W":
			right, rightNot = 2*right+1, 2*rightNot+1
		}
		so, isnt = left+right+1, leftNot+rightNot+1
	}
	return min(so, 9999), min(isnt, 9999)
}

// rules of what is simpler, in the chapter's order, f being anything, and one thing
// throughout a rule.
var rules = [][2]prop.Formula{
	{of("&", yes, of("f")), of("f")}, {of("&", of("f"), yes), of("f")}, {of("&", no, of("f")), no}, {of("&", of("f"), no), no}, {of("&", of("f"), of("f")), of("f")},
	{of("|", no, of("f")), of("f")}, {of("|", of("f"), no), of("f")}, {of("|", yes, of("f")), yes}, {of("|", of("f"), yes), yes}, {of("|", of("f"), of("f")), of("f")},
	{of("X", yes), yes}, {of("X", no), no},
	{of("U", of("f"), yes), yes}, {of("U", of("f"), no), no}, {of("U", no, of("f")), of("f")}, {of("U", of("f"), of("f")), of("f")},
	{of("R", of("f"), yes), yes}, {of("R", of("f"), no), no}, {of("R", yes, of("f")), of("f")}, {of("R", of("f"), of("f")), of("f")},
}

// fits: is a formula as a rule has it? Anything is kept.
func fits(f, rule prop.Formula, anything *prop.Formula) bool {
	if rule.Op == "f" {
		if anything.Op == "" {
			*anything = f
		}
		return prop.Same(f, *anything)
	}
	if f.Op != rule.Op || len(f.Kids) != len(rule.Kids) {
		return false
	}
	for i := range f.Kids {
		if !fits(f.Kids[i], rule.Kids[i], anything) {
			return false
		}
	}
	return true
}

// simpler: by the rules; of each how often it was for something is counted.
func simpler(f prop.Formula, count []int) prop.Formula {
	g := prop.Formula{Op: f.Op, Name: f.Name}
	for _, kid := range f.Kids {
		g.Kids = append(g.Kids, simpler(kid, count))
	}
	for i, rule := range rules {
		var anything prop.Formula
		if fits(g, rule[0], &anything) {
			count[i]++
			g = rule[1]
			if g.Op == "f" {
				g = anything
			}
		}
	}
	return g
}

// writer of formulas and words.
type writer struct{ rnd *rand.Rand }

// by chance, but always the same.
func by(seed uint64, i int) writer { return writer{rand.New(rand.NewPCG(seed, uint64(i)))} }

// oneOf some things.
func oneOf[T any](w writer, l ...T) T { return l[w.rnd.IntN(len(l))] }

// formula of about that many Formulas, of some Ops and of so many labels.
func (w writer) formula(one, two []string, labels, size int) prop.Formula {
	if size <= 1 {
		if w.rnd.IntN(labels+1) == 0 {
			return prop.Formula{Op: oneOf(w, "true", "false"), Pos: w.rnd.IntN(99)}
		}
		return prop.Formula{Op: "label", Name: string(rune('a' + w.rnd.IntN(labels))), Pos: w.rnd.IntN(99)}
	}
	f := prop.Formula{Pos: w.rnd.IntN(99)}
	if size == 2 || w.rnd.IntN(4) == 0 {
		f.Op, f.Kids = oneOf(w, one...), []prop.Formula{w.formula(one, two, labels, size-1)}
		return f
	}
	left := 1 + w.rnd.IntN(size-2)
	f.Op, f.Kids = oneOf(w, two...), []prop.Formula{w.formula(one, two, labels, left), w.formula(one, two, labels, size-1-left)}
	return f
}

// any formula.
func (w writer) any(size int) prop.Formula {
	return w.formula(prefixes, betweens, 1+w.rnd.IntN(6), size)
}

// normal: a formula that is normal; ! is put ahead of some labels behind.
func (w writer) normal(size int) prop.Formula {
	return w.turned(w.formula([]string{"X"}, []string{"&", "|", "U", "R"}, 1+w.rnd.IntN(3), size))
}

// turned: with ! ahead of some labels.
func (w writer) turned(f prop.Formula) prop.Formula {
	for i, kid := range f.Kids {
		f.Kids[i] = w.turned(kid)
	}
	if f.Op == "label" && w.rnd.IntN(3) == 0 {
		return of("!", f)
	}
	return f
}

// word over six names.
func (w writer) word() lasso.Lasso {
	letters := func(n int) []int {
		l := make([]int, n)
		for i := range l {
			l[i] = w.rnd.IntN(64)
		}
		return l
	}
	return lasso.Lasso{Stem: letters(w.rnd.IntN(5)), Loop: letters(1 + w.rnd.IntN(5))}
}

// P15.1
func TestNormalByChance(t *testing.T) {
	for i := range 4000 {
		w := by(15, i)
		f := w.any(1 + w.rnd.IntN(oneOf(w, 6, 20, 60)))
		if so, isnt := long(f); so <= 4096 && isnt <= 4096 {
			isNormally(t, f, n(f), d(f))
		}
	}
}

// P15.1: formulas of about as many parts as may be.
func TestLongFormulasByChance(t *testing.T) {
	right, wrong := 0, 0
	for i := range 600 {
		w := by(151, i)
		one, two := prefixes, betweens
		if w.rnd.IntN(2) == 0 {
			two = []string{"&", "|", "=>", "U", "R"}
		}
		f := w.formula(one, two, 1+w.rnd.IntN(6), 1+w.rnd.IntN(oneOf(w, 300, 3500, 4300)))
		so, isnt := long(f)
		if prop.Size(f) > api.MaxSize {
			so, isnt = 9999, 9999
		}
		isOf(t, f, false, so)
		isOf(t, f, true, isnt)
		for _, size := range []int{so, isnt} {
			if size > api.MaxSize {
				wrong++
			} else {
				right++
			}
		}
	}
	if right < 300 || wrong < 200 {
		t.Errorf("%d were short enough, %d too long", right, wrong)
	}
}

// P15.1: just as long as may be, and one more.
func TestFormulasAtTheEdgeByChance(t *testing.T) {
	for i := range 100 {
		w := by(152, i)
		f := w.any(1 + w.rnd.IntN(80))
		so, isnt := long(f)
		if so > 3000 || isnt > 3000 {
			continue
		}
		for size := 4094; size < 4099; size++ {
			for _, not := range []bool{false, true} {
				want, short := size, so
				if not {
					short = isnt
				}
				f := chain("X", size-short+1, f)
				if prop.Size(f) > api.MaxSize {
					want = 9999
				}
				isOf(t, f, not, want)
			}
		}
	}
}

// P15.1
func TestSimpleByChance(t *testing.T) {
	count := make([]int, len(rules))
	for i := range 6000 {
		w := by(153, i)
		f := w.normal(1 + w.rnd.IntN(oneOf(w, 6, 20, 60, 400)))
		isSimply(t, f, simpler(f, count))
	}
	for i, times := range count {
		if times < 200 {
			t.Errorf("the rule %s was for %d only", prop.Print(rules[i][0]), times)
		}
	}
}

// P15.1: nothing is simpler than what is told, by these rules.
func TestSimpleOfWhatIsTold(t *testing.T) {
	for i := range 2000 {
		w := by(154, i)
		f, err := Simple(w.normal(1 + w.rnd.IntN(60)))
		if err != nil {
			t.Fatal(err)
		}
		isSimply(t, f, f)
		isNormally(t, f, f, d(f))
	}
}

// P15.1: Is, of formulas that are normal but for one thing.
func TestIsByChance(t *testing.T) {
	normal, other := 0, 0
	for i := range 4000 {
		w := by(155, i)
		f := w.normal(1 + w.rnd.IntN(40))
		if !Is(f) {
			t.Fatalf("Is of %s: false", short(f))
		}
		if g := w.spoilt(f); same(f, g) {
			normal++
		} else {
			isNotNormal(t, g)
			other++
		}
	}
	if normal < 100 || other < 1000 {
		t.Errorf("%d as before, %d otherwise", normal, other)
	}
}

// spoilt: a formula with something in it that no normal one has, unless the way to it
// ends at a label behind a !.
func (w writer) spoilt(f prop.Formula) prop.Formula {
	if len(f.Kids) > 0 && w.rnd.IntN(4) > 0 {
		if f.Op == "!" {
			return f
		}
		i := w.rnd.IntN(len(f.Kids))
		g := f
		g.Kids = append([]prop.Formula{}, f.Kids...)
		g.Kids[i] = w.spoilt(f.Kids[i])
		return g
	}
	switch w.rnd.IntN(4) {
	case 0:
		return of(oneOf(w, "F", "G", "none"), f)
	case 1:
		return of(oneOf(w, "=>", "W", "X", "!", "true", "label"), f, f)
	case 2:
		return of("!", of("!", f))
	}
	return of(oneOf(w, "X", "&", "U", "W", "R", "|", ""))
}

// P15.2, with the help of package lasso: N holds just where the formula does, D just
// where it doesn't, and what is simpler where the other one does.
func TestAsMuchHoldsAheadAsBehind(t *testing.T) {
	names := []string{"c", "a", "f", "b", "e", "d"}
	held, simple := 0, 0
	for i := range 4000 {
		w := by(156, i)
		f := w.any(1 + w.rnd.IntN(oneOf(w, 8, 20, 40)))
		for _, not := range []bool{false, true} {
			g, err := Normal(f, not)
			if err == api.ErrLong {
				continue
			}
			h, err := Simple(g)
			if err != nil {
				t.Fatalf("Simple of %s: %v", short(g), err)
			}
			if prop.Size(h) < prop.Size(g) {
				simple++
			}
			for range 5 {
				v := w.word()
				ahead := truths(t, f, names, v)
				normal, simple := truths(t, g, names, v), truths(t, h, names, v)
				for k, is := range ahead {
					if (normal[k] == is) == not || simple[k] != normal[k] {
						t.Fatalf("%s, %v over %v at %s: %v; of %s %v, of %s %v", short(f), not, v, strconv.Itoa(k), is, short(g), normal[k], short(h), simple[k])
					}
					if is {
						held++
					}
				}
			}
		}
	}
	if held < 50000 || simple < 1000 {
		t.Errorf("only %d held, or only %d became simpler", held, simple)
	}
}

// truths: at which places of a word a formula holds.
func truths(t *testing.T, f prop.Formula, names []string, v lasso.Lasso) []bool {
	t.Helper()
	l, err := lasso.Truths(f, names, v)
	if err != nil {
		t.Fatalf("Truths of %s: %v", short(f), err)
	}
	return l
}
