package expr

import (
	"math"
	"math/rand/v2"
	"reflect"
	"strings"
	"testing"

	"sortilege/api"
	"sortilege/scan"
)

// kinds: how expressions are read, by the letters that the chapter gives them,
// from the loosest on; A is an atom.
const kinds = "cioanrspuA"

// shape: the kind of an expression with that Op, and ahead of each kid what
// stands there, its kind, and whether it is one level deeper.
func shape(op string) (kind byte, parts []part) {
	switch op {
	case "?":
		return 'c', []part{{"", 'i', 0}, {"?", 'c', 1}, {":", 'c', 1}}
	case "=>":
		return 'i', []part{{"", 'o', 0}, {"=>", 'i', 1}}
	case "|":
		return 'o', []part{{"", 'o', 0}, {"|", 'a', 0}}
	case "&":
		return 'a', []part{{"", 'a', 0}, {"&", 'n', 0}}
	case "!":
		return 'n', []part{{"!", 'n', 1}}
	case "=", "!=", "<", "<=", ">", ">=":
		return 'r', []part{{"", 's', 0}, {op, 's', 0}}
	case "+", "-":
		return 's', []part{{"", 's', 0}, {op, 'p', 0}}
	case "*":
		return 'p', []part{{"", 'p', 0}, {"*", 'u', 0}}
	case "neg":
		return 'u', []part{{"-", 'u', 1}}
	}
	return 'A', nil
}

// part of a shape.
type part struct {
	sign string
	kind byte
	down int
}

// randomExpr: one of many kinds, with about that many Exprs.
func randomExpr(rnd *rand.Rand, size int) Expr {
	if size <= 1 {
		switch rnd.IntN(5) {
		case 0:
			return num(rnd.Int64N(20))
		case 1:
			return num(rnd.Int64())
		case 2:
			return of([]string{"true", "false"}[rnd.IntN(2)])
		}
		return name([]string{"x", "y", "_z9", "neg", "num", "True"}[rnd.IntN(6)])
	}
	ops := strings.Fields("? => | & ! ! = != < <= > >= + - * neg neg")
	e := of(ops[rnd.IntN(len(ops))])
	_, parts := shape(e.Op)
	for range parts {
		e.Kids = append(e.Kids, randomExpr(rnd, (size-1)/len(parts)+rnd.IntN(3)-1))
	}
	return e
}

// writer writes expressions, with blanks and needless parentheses by chance,
// and keeps at which place each one begins, and on which level.
type writer struct {
	text   []byte
	rnd    *rand.Rand
	begins []begin
}

// begin of an expression.
type begin struct{ level, pos int }

// token: at its place, with blanks ahead of it.
func (w *writer) token(s string) int {
	w.text = append(w.text, []string{" ", "\n", "  ", "\t//(\n"}[w.rnd.IntN(4)]...)
	pos := len(w.text)
	w.text = append(w.text, s...)
	return pos
}

// write: an expression where one of that kind is read; it is told with its
// places.
func (w *writer) write(e Expr, where byte, level int) Expr {
	kind, parts := shape(e.Op)
	e.Kids = append([]Expr(nil), e.Kids...)
	if strings.IndexByte(kinds, kind) < strings.IndexByte(kinds, where) || w.rnd.IntN(6) == 0 {
		pos := w.token("(")
		w.begins = append(w.begins, begin{level, pos})
		e = w.write(e, 'c', level+1)
		w.token(")")
		e.Pos = pos
		return e
	}
	if kind == 'A' {
		e.Pos = w.token(Print(e))
		w.begins = append(w.begins, begin{level, e.Pos})
		return e
	}
	for i, p := range parts {
		if p.sign != "" {
			pos := w.token(p.sign)
			if i == 0 {
				e.Pos = pos
				w.begins = append(w.begins, begin{level, pos})
			}
		}
		e.Kids[i] = w.write(e.Kids[i], p.kind, level+p.down)
	}
	if parts[0].sign == "" {
		e.Pos = e.Kids[0].Pos
	}
	return e
}

// tooDeep: the place of the first one that is below a depth.
func (w *writer) tooDeep(depth int) (int, bool) {
	for _, b := range w.begins {
		if b.level > depth {
			return b.pos, true
		}
	}
	return 0, false
}

// depthOf: the least one at which a text is read.
func depthOf(t *testing.T, s string) int {
	t.Helper()
	for depth := 1; depth <= 64; depth++ {
		if _, err := Parse(s, depth); err == nil {
			return depth
		}
	}
	t.Fatalf("Parse(%s): at no depth", short(s))
	return 0
}

// P5.1: what was written is read, with the places at which it was, at the depth
// that it needs; else too deep where it was first.
func TestWhatIsWrittenIsRead(t *testing.T) {
	rnd := rand.New(rand.NewPCG(5, 1))
	for range 4000 {
		w := &writer{rnd: rnd}
		right := w.write(randomExpr(rnd, 1+rnd.IntN(40)), 'c', 1)
		s := string(w.text)
		for depth := 1; depth <= 40; depth++ {
			if pos, is := w.tooDeep(depth); is {
				fails(t, s, depth, api.ErrDeep, pos)
				continue
			}
			if e, err := Parse(s, depth); err != nil || !reflect.DeepEqual(e, right) {
				t.Fatalf("Parse(%q, %d): %+v, %v; want %+v", s, depth, e, err, right)
			}
			break
		}
	}
}

// P5.3: what is told is read as the same, at no greater depth.
func TestWhatIsToldIsReadAsTheSame(t *testing.T) {
	rnd := rand.New(rand.NewPCG(5, 3))
	for range 4000 {
		w := &writer{rnd: rnd}
		e := w.write(randomExpr(rnd, 1+rnd.IntN(60)), 'c', 1)
		told := Print(e)
		again, err := Parse(told, 64)
		if err != nil || !reflect.DeepEqual(bare(again), bare(e)) || !Same(again, e) {
			t.Fatalf("%+v is told as %q, read as %+v, %v", e, told, again, err)
		}
		if Print(again) != told {
			t.Fatalf("%q is told again as %q", told, Print(again))
		}
		if was, is := depthOf(t, string(w.text)), depthOf(t, told); is > was {
			t.Fatalf("%q needs %d, %q %d", w.text, was, told, is)
		}
	}
}

// P5.2: without any two of its parentheses it would be read otherwise.
func TestNoParenthesesAreNeedless(t *testing.T) {
	rnd := rand.New(rand.NewPCG(5, 2))
	for range 4000 {
		e := randomExpr(rnd, 1+rnd.IntN(40))
		told := Print(e)
		for from, c := range []byte(told) {
			if c != '(' {
				continue
			}
			to := closing(told, from)
			less := told[:from] + " " + told[from+1:to] + " " + told[to+1:]
			if other, err := Parse(less, 64); err == nil && Same(other, e) {
				t.Fatalf("%q is read as %q, too", told, less)
			}
		}
	}
}

// closing: the place of the parenthesis that closes the one at a place.
func closing(s string, from int) int {
	open := 0
	for i := from; i < len(s); i++ {
		switch s[i] {
		case '(':
			open++
		case ')':
			open--
		}
		if open == 0 {
			return i
		}
	}
	return -1
}

// grammar: the chapter's, a chain being the shorter one and one behind.
func grammar() map[byte][]string {
	return map[byte][]string{
		'c': {"i", "i?c:c"}, 'i': {"o", "o>i"}, 'o': {"a", "o|a"}, 'a': {"n", "a&n"}, 'n': {"!n", "r"},
		'r': {"s", "s=s"}, 's': {"p", "s+p", "s-p"}, 'p': {"u", "p*u"}, 'u': {"-u", "A"}, 'A': {"x", "(c)"},
	}
}

// item: how far a rule is gone through, and where that began.
type item struct {
	kind     byte
	rule     string
	dot, org int
}

// firstWrong: the number of the first token with which no whole text begins as
// this one does, by going through all rules at once; tokens are told by one
// byte each, and . is the end.
func firstWrong(tokens string) (int, bool) {
	rules := grammar()
	sets := make([][]item, len(tokens)+2)
	add := func(i int, x item) {
		for _, y := range sets[i] {
			if x == y {
				return
			}
		}
		sets[i] = append(sets[i], x)
	}
	sets[0] = []item{{'t', "c.", 0, 0}}
	for i := 0; i <= len(tokens); i++ {
		for n := 0; n < len(sets[i]); n++ {
			x := sets[i][n]
			switch {
			case x.dot == len(x.rule):
				for _, y := range sets[x.org] {
					if y.dot < len(y.rule) && y.rule[y.dot] == x.kind {
						add(i, item{y.kind, y.rule, y.dot + 1, y.org})
					}
				}
			case rules[x.rule[x.dot]] != nil:
				for _, rule := range rules[x.rule[x.dot]] {
					add(i, item{x.rule[x.dot], rule, 0, i})
				}
			case i < len(tokens) && x.rule[x.dot] == tokens[i]:
				add(i+1, item{x.kind, x.rule, x.dot + 1, x.org})
			}
		}
		if i < len(tokens) && len(sets[i+1]) == 0 {
			return i, true
		}
	}
	return 0, false
}

// spelled: tokens of one byte each as a text, with each one's place.
func spelled(tokens string) (string, []int) {
	var b strings.Builder
	var places []int
	for _, c := range []byte(tokens) {
		b.WriteByte(' ')
		places = append(places, b.Len())
		switch c {
		case '>':
			b.WriteString("=>")
		case '.':
		default:
			b.WriteByte(c)
		}
	}
	places[len(places)-1] = b.Len()
	return b.String(), places
}

// judged: a text is read or refused as by firstWrong.
func judged(t *testing.T, tokens string) {
	t.Helper()
	tokens += "."
	s, places := spelled(tokens)
	if i, wrong := firstWrong(tokens); wrong {
		fails(t, s, 64, api.ErrSyntax, places[i])
		return
	}
	if _, err := Parse(s, 64); err != nil {
		t.Errorf("Parse(%q): %v", s, err)
	}
}

// P5.1: all texts of a few tokens.
func TestAllShortTexts(t *testing.T) {
	const tokens = "x()!-?:>|&=+*"
	l := []string{""}
	for range 4 {
		var longer []string
		for _, s := range l {
			judged(t, s)
			for _, c := range tokens {
				longer = append(longer, s+string(c))
			}
		}
		l = longer
	}
	for _, s := range l {
		judged(t, s)
	}
}

// P5.1: texts that could be read, but for one token.
func TestTextsWithOneTokenChanged(t *testing.T) {
	const tokens = "x()!-?:>|&=+*"
	rnd := rand.New(rand.NewPCG(5, 4))
	for range 3000 {
		s := []byte(oneByteEach(t, Print(randomExpr(rnd, 1+rnd.IntN(20)))))
		i := rnd.IntN(len(s))
		switch rnd.IntN(3) {
		case 0:
			s[i] = tokens[rnd.IntN(len(tokens))]
		case 1:
			s = append(s[:i], s[i+1:]...)
		case 2:
			s = append(s[:i], append([]byte{tokens[rnd.IntN(len(tokens))]}, s[i:]...)...)
		}
		judged(t, string(s))
	}
}

// oneByteEach: a text's tokens, told as firstWrong takes them.
func oneByteEach(t *testing.T, s string) string {
	t.Helper()
	l, err := scan.Tokens(s)
	if err != nil {
		t.Fatal(err)
	}
	var b strings.Builder
	for _, token := range l[:len(l)-1] {
		switch {
		case token.Kind != 4:
			b.WriteByte('x')
		case token.Text == "=>":
			b.WriteByte('>')
		case strings.Contains("=!=<=>=", token.Text) && token.Text != "!":
			b.WriteByte('=')
		default:
			b.WriteString(token.Text)
		}
	}
	return b.String()
}

// R1: any text ends, with an expression or an error that has a name.
func TestAnyText(t *testing.T) {
	rnd := rand.New(rand.NewPCG(5, 5))
	parts := append(strings.Fields("a 1 true false ( ) ! - ? : => | & = != < <= > >= + * [ ] ; ' .. -> \"a\" # \" // 99999999999999999999"), " ", "\n", "\x00", "\xff")
	for range 20000 {
		var b strings.Builder
		for range rnd.IntN(12) {
			b.WriteString(parts[rnd.IntN(len(parts))])
		}
		depth := rnd.IntN(70) - 3
		e, err := Parse(b.String(), depth)
		if err != nil && !isZero(e) || err == nil && (depth < 1 || depth > 64 || !readsAgain(e)) {
			t.Fatalf("Parse(%q, %d): %+v, %v", b.String(), depth, e, err)
		}
	}
}

// readsAgain: is what is told of it read as the same?
func readsAgain(e Expr) bool {
	again, err := Parse(Print(e), 64)
	return err == nil && Same(again, e)
}

// R4: what is handed in stays as it is, and what is told lies apart from it.
func TestNothingIsShared(t *testing.T) {
	e, err := Parse("!(a = b) & c ? -d : (a + 1) * 2 => true", 9)
	if err != nil {
		t.Fatal(err)
	}
	copied, told := deepCopy(e), Print(e)
	Size(e)
	Same(e, copied)
	if !reflect.DeepEqual(e, copied) {
		t.Errorf("changed: %+v; was %+v", e, copied)
	}
	// Size counts in a list of its own, even if the kids' has room behind it.
	room := append(make([]Expr, 0, 8), a, of("!", b))
	behind := room[:4]
	behind[2], behind[3] = c, d
	Size(of("+", room...))
	if !Same(behind[2], c) || !Same(behind[3], d) || !Same(behind[1], of("!", b)) {
		t.Errorf("changed behind the kids: %+v", behind)
	}
	// A second reading has lists of its own.
	again, err := Parse("!(a = b) & c ? -d : (a + 1) * 2 => true", 9)
	if err != nil {
		t.Fatal(err)
	}
	spoil(again)
	if !reflect.DeepEqual(e, copied) || Print(e) != told {
		t.Errorf("spoilt: %+v; was %+v", e, copied)
	}
}

// deepCopy: with lists of its own.
func deepCopy(e Expr) Expr {
	var kids []Expr
	for _, kid := range e.Kids {
		kids = append(kids, deepCopy(kid))
	}
	e.Kids = kids
	return e
}

// spoil: all that lies in lists is made another.
func spoil(e Expr) {
	for i := range e.Kids {
		spoil(e.Kids[i])
		e.Kids[i] = num(math.MinInt64)
	}
}
