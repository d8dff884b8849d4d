package prop

import (
	"math/rand/v2"
	"reflect"
	"slices"
	"strings"
	"testing"

	"sortilege/api"
	"sortilege/scan"
)

// kinds: how formulas are read, by the letters that the chapter gives them, from
// the loosest on; A is an atom.
const kinds = "foauxA"

// part of a shape.
type part struct {
	sign string
	kind byte
	down int
}

// shape: the kind of a formula with that Op, and ahead of each kid what stands
// there, its kind, and whether it is one level deeper.
func shape(op string) (kind byte, parts []part) {
	switch op {
	case "=>":
		return 'f', []part{{"", 'o', 0}, {"=>", 'f', 1}}
	case "|":
		return 'o', []part{{"", 'o', 0}, {"|", 'a', 0}}
	case "&":
		return 'a', []part{{"", 'a', 0}, {"&", 'u', 0}}
	case "U", "W", "R":
		return 'u', []part{{"", 'x', 0}, {op, 'u', 1}}
	case "!", "X", "F", "G":
		return 'x', []part{{op, 'x', 1}}
	}
	return 'A', nil
}

// randomFormula: one of many kinds, with about that many Formulas.
func randomFormula(rnd *rand.Rand, size int) Formula {
	if size <= 1 {
		switch rnd.IntN(3) {
		case 0:
			return of([]string{"true", "false"}[rnd.IntN(2)])
		default:
			return label([]string{"a", "b", "true", "X", "U", "=>", ")", " ", "//", "Pmin=1"}[rnd.IntN(10)])
		}
	}
	ops := slices.Concat(prefixes, betweens)
	f := of(ops[rnd.IntN(len(ops))])
	_, parts := shape(f.Op)
	for range parts {
		f.Kids = append(f.Kids, randomFormula(rnd, (size-1)/len(parts)+rnd.IntN(3)-1))
	}
	return f
}

// writer writes formulas and questions, with blanks and needless parentheses by
// chance, and keeps at which place each one begins, and on which level.
type writer struct {
	text   []byte
	rnd    *rand.Rand
	begins []begin
}

// begin of a formula.
type begin struct{ level, pos int }

// token: at its place, with blanks ahead of it.
func (w *writer) token(s string) int {
	w.text = append(w.text, []string{" ", "\n", "  ", "\t//(\n"}[w.rnd.IntN(4)]...)
	pos := len(w.text)
	w.text = append(w.text, s...)
	return pos
}

// write: a formula where one of that kind is read; it is told with its places.
func (w *writer) write(f Formula, where byte, level int) Formula {
	kind, parts := shape(f.Op)
	f.Kids = append([]Formula(nil), f.Kids...)
	if strings.IndexByte(kinds, kind) < strings.IndexByte(kinds, where) || w.rnd.IntN(6) == 0 {
		pos := w.token("(")
		w.begins = append(w.begins, begin{level, pos})
		f = w.write(f, 'f', level+1)
		w.token(")")
		f.Pos = pos
		return f
	}
	if kind == 'A' {
		f.Pos = w.token(Print(f))
		w.begins = append(w.begins, begin{level, f.Pos})
		return f
	}
	for i, p := range parts {
		if p.sign != "" {
			pos := w.token(p.sign)
			if i == 0 {
				f.Pos = pos
				w.begins = append(w.begins, begin{level, pos})
			}
		}
		f.Kids[i] = w.write(f.Kids[i], p.kind, level+p.down)
	}
	if parts[0].sign == "" {
		f.Pos = f.Kids[0].Pos
	}
	return f
}

// question: of a formula; it is told with its places.
func (w *writer) question(kind string, f Formula) Query {
	q := Query{Kind: kind, Pos: w.token(kind[:4])}
	w.token(kind[4:5])
	w.token(kind[5:])
	w.token("[")
	q.F = w.write(f, 'f', 1)
	w.token("]")
	w.token(";")
	return q
}

// questions: some by chance.
func (w *writer) questions() []Query {
	var l []Query
	for range w.rnd.IntN(4) {
		l = append(l, w.question(kindsOf[w.rnd.IntN(4)], randomFormula(w.rnd, 1+w.rnd.IntN(15))))
	}
	return l
}

// tooDeep: the place of the first one that is below a depth.
func (w *writer) tooDeep(depth int) (int, bool) {
	for _, b := range w.begins {
		if b.level > depth {
			return b.pos, true
		}
	}
	return 0, false
}

// depthOf: the least one at which a text is read.
func depthOf(t *testing.T, s string) int {
	t.Helper()
	for depth := 1; depth <= 64; depth++ {
		if _, err := Parse(s, depth); err == nil {
			return depth
		}
	}
	t.Fatalf("Parse(%s): at no depth", short(s))
	return 0
}

// P7.1: what was written is read, with the places at which it was, at the depth
// that it needs; else too deep where it was first.
func TestWhatIsWrittenIsRead(t *testing.T) {
	rnd := rand.New(rand.NewPCG(7, 1))
	for range 4000 {
		w := &writer{rnd: rnd}
		right := w.write(randomFormula(rnd, 1+rnd.IntN(40)), 'f', 1)
		s := string(w.text)
		for depth := 1; depth <= 40; depth++ {
			if pos, is := w.tooDeep(depth); is {
				fails(t, s, depth, api.ErrDeep, pos)
				continue
			}
			if f, err := Parse(s, depth); err != nil || !reflect.DeepEqual(f, right) {
				t.Fatalf("Parse(%q, %d): %+v, %v; want %+v", s, depth, f, err, right)
			}
			break
		}
	}
}

// P7.1: so are questions.
func TestQuestionsThatAreWrittenAreRead(t *testing.T) {
	rnd := rand.New(rand.NewPCG(7, 2))
	for range 2000 {
		w := &writer{rnd: rnd}
		right := w.questions()
		s := string(w.text)
		for depth := 1; depth <= 20; depth++ {
			if pos, is := w.tooDeep(depth); is {
				failsAsk(t, s, depth, api.ErrDeep, pos)
				continue
			}
			if l, err := Queries(s, depth); err != nil || len(l) != len(right) || len(l) > 0 && !reflect.DeepEqual(l, right) {
				t.Fatalf("Queries(%q, %d): %+v, %v; want %+v", s, depth, l, err, right)
			}
			break
		}
	}
}

// P7.3: what is told is read as the same, at no greater depth.
func TestWhatIsToldIsReadAsTheSame(t *testing.T) {
	rnd := rand.New(rand.NewPCG(7, 3))
	for range 4000 {
		w := &writer{rnd: rnd}
		f := w.write(randomFormula(rnd, 1+rnd.IntN(60)), 'f', 1)
		told := Print(f)
		again, err := Parse(told, 64)
		if err != nil || !reflect.DeepEqual(bare(again), bare(f)) || !Same(again, f) {
			t.Fatalf("%+v is told as %q, read as %+v, %v", f, told, again, err)
		}
		if Print(again) != told {
			t.Fatalf("%q is told again as %q", told, Print(again))
		}
		was, is := depthOf(t, string(w.text)), depthOf(t, told)
		if is > was {
			t.Fatalf("%q needs %d, %q %d", w.text, was, told, is)
		}
		// Asked, too.
		l, err := Queries(Ask(Query{Kind: "Pmax>0", F: f})+";", is)
		if err != nil || len(l) != 1 || l[0].Kind != "Pmax>0" || !Same(l[0].F, f) {
			t.Fatalf("Queries(%q): %+v, %v", told, l, err)
		}
	}
}

// P7.2: without any two of its parentheses it would be read otherwise.
func TestNoParenthesesAreNeedless(t *testing.T) {
	rnd := rand.New(rand.NewPCG(7, 4))
	for range 4000 {
		f := randomFormula(rnd, 1+rnd.IntN(40))
		told := Print(f)
		tokens, err := scan.Tokens(told)
		if err != nil {
			t.Fatal(err)
		}
		for i, token := range tokens {
			if token.Kind != 4 || token.Text != "(" {
				continue
			}
			from, to := token.Pos, closing(tokens[i:])
			less := told[:from] + " " + told[from+1:to] + " " + told[to+1:]
			if other, err := Parse(less, 64); err == nil && Same(other, f) {
				t.Fatalf("%q is read as %q, too", told, less)
			}
		}
	}
}

// closing: the place of the parenthesis that closes the first one of tokens.
func closing(tokens []scan.Token) int {
	open := 0
	for _, token := range tokens {
		switch {
		case token.Kind != 4:
		case token.Text == "(":
			open++
		case token.Text == ")":
			open--
		}
		if open == 0 {
			return token.Pos
		}
	}
	return -1
}

// grammar: the chapter's, a chain being the shorter one and one behind; k is a
// question, and q at least one of them.
func grammar() map[byte][]string {
	return map[byte][]string{
		'f': {"o", "oIf"}, 'o': {"a", "o|a"}, 'a': {"u", "a&u"}, 'u': {"x", "xUu"},
		'x': {"!x", "Xx", "L", "T", "(f)"},
		'k': {"P=1[f];", "P>0[f];"}, 'q': {"k", "qk"},
	}
}

// spellings of a token of the grammar: N is one that stands nowhere.
func spellings(c byte) []string {
	switch c {
	case 'I':
		return []string{"=>"}
	case 'U':
		return untils
	case 'X':
		return prefixes[1:]
	case 'L':
		return []string{`"a"`, `"U"`, `"("`, `"true"`, `"]"`, `"1"`}
	case 'T':
		return []string{"true", "false"}
	case 'P':
		return []string{"Pmin", "Pmax"}
	case 'N':
		return []string{"x", "01", "00", "2", "'", "<=", "..", "label", "Pmin1", "u", "XX", ":", "->", ">=", "!="}
	case '.':
		return []string{""}
	}
	return []string{string(c)}
}

// item: how far a rule is gone through, and where that began.
type item struct {
	kind     byte
	rule     string
	dot, org int
}

// firstWrong: the number of the first token with which no whole text of the
// rules begins as this one does, by going through all rules at once.
func firstWrong(wholes []string, tokens string) (int, bool) {
	rules := grammar()
	sets := make([][]item, len(tokens)+2)
	add := func(i int, x item) {
		for _, y := range sets[i] {
			if x == y {
				return
			}
		}
		sets[i] = append(sets[i], x)
	}
	for _, whole := range wholes {
		add(0, item{'t', whole, 0, 0})
	}
	for i := 0; i <= len(tokens); i++ {
		for n := 0; n < len(sets[i]); n++ {
			x := sets[i][n]
			switch {
			case x.dot == len(x.rule):
				for _, y := range sets[x.org] {
					if y.dot < len(y.rule) && y.rule[y.dot] == x.kind {
						add(i, item{y.kind, y.rule, y.dot + 1, y.org})
					}
				}
			case rules[x.rule[x.dot]] != nil:
				for _, rule := range rules[x.rule[x.dot]] {
					add(i, item{x.rule[x.dot], rule, 0, i})
				}
			case i < len(tokens) && x.rule[x.dot] == tokens[i]:
				add(i+1, item{x.kind, x.rule, x.dot + 1, x.org})
			}
		}
		if i < len(tokens) && len(sets[i+1]) == 0 {
			return i, true
		}
	}
	return 0, false
}

// spelled: tokens of the grammar as a text, with each one's place.
func spelled(rnd *rand.Rand, tokens string) (string, []int) {
	var b strings.Builder
	var places []int
	for _, c := range []byte(tokens) {
		if c != '.' {
			b.WriteByte(' ')
		}
		places = append(places, b.Len())
		l := spellings(c)
		b.WriteString(l[rnd.IntN(len(l))])
	}
	return b.String(), places
}

// judged: a text is read or refused as a formula as by firstWrong.
func judged(t *testing.T, rnd *rand.Rand, tokens string) {
	t.Helper()
	tokens += "."
	s, places := spelled(rnd, tokens)
	if i, wrong := firstWrong([]string{"f."}, tokens); wrong {
		fails(t, s, 64, api.ErrSyntax, places[i])
		return
	}
	if _, err := Parse(s, 64); err != nil {
		t.Errorf("Parse(%q): %v", s, err)
	}
}

// judgedAsk: likewise as questions.
func judgedAsk(t *testing.T, rnd *rand.Rand, tokens string) {
	t.Helper()
	tokens += "."
	s, places := spelled(rnd, tokens)
	if i, wrong := firstWrong([]string{".", "q."}, tokens); wrong {
		failsAsk(t, s, 64, api.ErrSyntax, places[i])
		return
	}
	if _, err := Queries(s, 64); err != nil {
		t.Errorf("Queries(%q): %v", s, err)
	}
}

// P7.1: all texts of a few tokens.
func TestAllShortTexts(t *testing.T) {
	const tokens = "L()!XI|&U"
	rnd := rand.New(rand.NewPCG(7, 5))
	l := []string{""}
	for range 4 {
		var longer []string
		for _, s := range l {
			judged(t, rnd, s)
			for _, c := range tokens {
				longer = append(longer, s+string(c))
			}
		}
		l = longer
	}
	for _, s := range l {
		judged(t, rnd, s)
	}
}

// P7.1: all beginnings of questions, with each token behind.
func TestEachTokenAtEachPlaceOfAQuestion(t *testing.T) {
	const tokens = "P=>10[];()!XI|&ULTN"
	rnd := rand.New(rand.NewPCG(7, 6))
	for _, whole := range []string{"P=1[L];", "P>0[T];", "P=1[!L];", "P>0[XLUT];", "P=1[(T)];", "P>0[L&L];", "P=1[L|T];", "P>0[TIL];", "P=1[T];P>0[L];P=1[L];"} {
		for i := range len(whole) + 1 {
			judgedAsk(t, rnd, whole[:i])
			for _, c := range tokens {
				for range 4 {
					judgedAsk(t, rnd, whole[:i]+string(c))
					judgedAsk(t, rnd, whole[:i]+string(c)+whole[i:])
					judgedAsk(t, rnd, whole[:i]+string(c)+whole[min(i+1, len(whole)):])
				}
			}
		}
	}
}

// P7.1: texts that could be read, but for one token.
func TestTextsWithOneTokenChanged(t *testing.T) {
	rnd := rand.New(rand.NewPCG(7, 7))
	for range 3000 {
		judged(t, rnd, spoilt(rnd, oneByteEach(t, Print(randomFormula(rnd, 1+rnd.IntN(20))))))
		var b strings.Builder
		for _, q := range (&writer{rnd: rnd}).questions() {
			b.WriteString(Ask(q) + ";")
		}
		judgedAsk(t, rnd, spoilt(rnd, oneByteEach(t, b.String())))
	}
}

// spoilt: tokens of which one is another, or isn't there, or that have one more.
func spoilt(rnd *rand.Rand, s string) string {
	const tokens = "P=>10[];()!XI|&ULTN"
	c := string(tokens[rnd.IntN(len(tokens))])
	if s == "" {
		return c
	}
	i := rnd.IntN(len(s))
	switch rnd.IntN(3) {
	case 0:
		return s[:i] + c + s[i+1:]
	case 1:
		return s[:i] + s[i+1:]
	}
	return s[:i] + c + s[i:]
}

// oneByteEach: a text's tokens, told as firstWrong takes them.
func oneByteEach(t *testing.T, s string) string {
	t.Helper()
	l, err := scan.Tokens(s)
	if err != nil {
		t.Fatal(err)
	}
	var b strings.Builder
	for _, token := range l[:len(l)-1] {
		switch {
		case token.Kind == 3:
			b.WriteByte('L')
		case strings.Contains("UWR", token.Text):
			b.WriteByte('U')
		case strings.Contains("XFG", token.Text):
			b.WriteByte('X')
		case token.Text == "true" || token.Text == "false":
			b.WriteByte('T')
		case token.Text == "=>":
			b.WriteByte('I')
		case token.Text == "Pmin" || token.Text == "Pmax":
			b.WriteByte('P')
		default:
			b.WriteString(token.Text)
		}
	}
	return b.String()
}

// R1: any text ends, with what is read or an error that has a name.
func TestAnyText(t *testing.T) {
	rnd := rand.New(rand.NewPCG(7, 8))
	parts := append(strings.Fields("true false ( ) ! X F G => | & U W R = > 0 1 [ ] ; Pmin Pmax Pmin=1[ Pmax>0[ ]; ' .. -> \"a\" \"b\" # \" // 99999999999999999999"), " ", "\n", "\x00", "\xff")
	for range 20000 {
		var b strings.Builder
		for range rnd.IntN(12) {
			b.WriteString(parts[rnd.IntN(len(parts))])
			b.WriteString([]string{"", " "}[rnd.IntN(2)])
		}
		depth := rnd.IntN(70) - 3
		may := 1 <= depth && depth <= 64
		f, err := Parse(b.String(), depth)
		if err != nil && !isZero(f) || err == nil && (!may || !readsAgain(f)) {
			t.Fatalf("Parse(%q, %d): %+v, %v", b.String(), depth, f, err)
		}
		l, err := Queries(b.String(), depth)
		if err != nil && len(l) != 0 || err == nil && !may {
			t.Fatalf("Queries(%q, %d): %+v, %v", b.String(), depth, l, err)
		}
		for _, q := range l {
			if !readsAgain(q.F) {
				t.Fatalf("Queries(%q, %d): %+v", b.String(), depth, l)
			}
		}
	}
}

// readsAgain: is what is told of it read as the same?
func readsAgain(f Formula) bool {
	again, err := Parse(Print(f), 64)
	return err == nil && Same(again, f)
}
