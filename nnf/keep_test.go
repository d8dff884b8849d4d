package nnf

import (
	"slices"
	"testing"

	"sortilege/api"
	"sortilege/prop"
)

// room: a list with what it may grow to.
func room(l []prop.Formula) []prop.Formula { return l[:cap(l)] }

// spare: the same formula in other memory, with room behind its kids, as pieces of other
// lists have, and with places.
func spare(f prop.Formula) prop.Formula {
	kids := []prop.Formula{}
	for _, kid := range f.Kids {
		kids = append(kids, spare(kid))
	}
	f.Pos, f.Kids = 5, append(kids, of("spare"), of("spare"))[:len(kids)]
	return f
}

// spoil all lists of a formula, and what they may grow to.
func spoil(f prop.Formula) {
	for _, kid := range f.Kids {
		spoil(kid)
	}
	for i := range room(f.Kids) {
		room(f.Kids)[i] = of("spoilt")
	}
}

// isAlone: no two lists within a formula share memory.
func isAlone(t *testing.T, f prop.Formula) {
	t.Helper()
	seen := map[*prop.Formula]bool{}
	var look func(prop.Formula)
	look = func(f prop.Formula) {
		for i := range room(f.Kids) {
			if seen[&room(f.Kids)[i]] {
				t.Fatalf("of %s two lists share memory", short(f))
			}
			seen[&room(f.Kids)[i]] = true
		}
		for _, kid := range f.Kids {
			look(kid)
		}
	}
	look(f)
}

// each call that tells a formula.
func each(f prop.Formula) []func() (prop.Formula, error) {
	l := []func() (prop.Formula, error){
		func() (prop.Formula, error) { return Normal(f, false) },
		func() (prop.Formula, error) { return Normal(f, true) },
	}
	if Is(f) {
		l = append(l, func() (prop.Formula, error) { return Simple(f) })
	}
	return l
}

// formulas of each Op in each other one.
func nested(t *testing.T) []prop.Formula {
	l := []prop.Formula{yes, no, a, notA, of("!", notA)}
	for _, op := range prefixes {
		l = append(l, of(op, a), of(op, of("W", a, of(op, b))))
	}
	for _, op := range betweens {
		l = append(l, of(op, a, b), of(op, a, a), of(op, notA, notA), of(op, of(op, yes, a), of("X", no)), of(op, of("X", a), of("X", a)), of(op, of("F", a), of(op, b, of("G", a))))
	}
	for _, s := range []string{"('a & 'b & true) | ('a & (false | 'b))", "X ('a & 'b) U (false | X ('a & 'b))", "'a R 'b R 'c & (false R 'b)"} {
		l = append(l, read(t, s, false))
	}
	return l
}

// R4, R6: what is handed in stays, what is told is the caller's, and is told again.
func TestNothingIsChangedOrKept(t *testing.T) {
	for _, g := range nested(t) {
		f := spare(g)
		for i, call := range each(f) {
			first, err := call()
			second, again := call()
			if err != nil || again != nil || !same(first, second) {
				t.Fatalf("call %d of %s: %s, %v, and then %s, %v", i, short(g), short(first), err, short(second), again)
			}
			isAlone(t, of("both", first, second))
			want := placeless(first)
			spoil(second)
			if third, err := call(); !same(first, want) || err != nil || !same(third, want) {
				t.Errorf("call %d of %s: %s, then %s, %v", i, short(g), short(first), short(third), err)
			}
			if !isSpare(f, g) {
				t.Fatalf("call %d of %s: it became %s", i, short(g), short(f))
			}
		}
		// What is told stays, too.
		var told, wants []prop.Formula
		for _, call := range each(f) {
			answer, _ := call()
			told, wants = append(told, answer), append(wants, placeless(answer))
		}
		spoil(f)
		if !slices.EqualFunc(told, wants, same) {
			t.Errorf("what is told of %s changed with it", short(g))
		}
	}
}

// isSpare: is a formula still what spare made of another one?
func isSpare(f, g prop.Formula) bool {
	return same(f, spare(g)) && hasSpare(f)
}

// hasSpare: does what stood behind all its lists still stand there?
func hasSpare(f prop.Formula) bool {
	behind := room(f.Kids)[len(f.Kids):]
	return len(behind) >= 2 && same(behind[0], of("spare")) && same(behind[1], of("spare")) &&
		!slices.ContainsFunc(f.Kids, func(kid prop.Formula) bool { return !hasSpare(kid) })
}

// R4: a call that fails changes nothing, either.
func TestNothingIsChangedBesideErrors(t *testing.T) {
	wrong := of("W", of("F", a), of("&", of("none"), yes))
	f := spare(wrong)
	fails(t, f, api.ErrArg)
	isNotNormal(t, f)
	if !isSpare(f, wrong) {
		t.Errorf("%s became %s", short(wrong), short(f))
	}
	long := of("X", of("|", chain("X", 5000, yes), of("&", a, a)))
	f = spare(long)
	fails(t, f, api.ErrLong)
	g, err := Simple(f)
	isToldWrong(t, "Simple", g, err, api.ErrLong)
	if !isSpare(f, long) {
		t.Error("a long formula became another one")
	}
}
