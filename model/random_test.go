package model

import (
	"errors"
	"math/rand/v2"
	"reflect"
	"strconv"
	"strings"
	"testing"

	"sortilege/api"
	"sortilege/expr"
	"sortilege/scan"
)

// writer writes models by chance, with blanks by chance, and keeps at which
// place each part begins.
type writer struct {
	text []byte
	rnd  *rand.Rand
}

// token: at its place, with blanks ahead of it.
func (w *writer) token(s string) int {
	w.text = append(w.text, []string{" ", "\n", " \t ", "//;\n"}[w.rnd.IntN(4)]...)
	pos := len(w.text)
	w.text = append(w.text, s...)
	return pos
}

// tokens: one behind the other.
func (w *writer) tokens(l ...string) {
	for _, s := range l {
		w.token(s)
	}
}

// one of some texts.
func (w *writer) one(l ...string) string {
	return l[w.rnd.IntN(len(l))]
}

// name: at its place.
func (w *writer) name() (string, int) {
	s := w.one("a", "b", "x", "y", "_1", "Mdp", "initial", "trueish", "U", "min")
	return s, w.token(s)
}

// expression: its places are those of the same one that stands alone, and on.
func (w *writer) expression() expr.Expr {
	s := w.one("0", "x", "true", "mdp", "(1)", "-x", "!a & b", "a => b", "x + 1 < y * 2", "a ? b : c", "(a = b) = c", "-(x - 1)", "x=y", "a|b|c", "((init))", "a & (b | false)")
	alone, err := expr.Parse(s, 64)
	if err != nil {
		panic(s)
	}
	return moved(alone, w.token(s))
}

// moved: an expression, so many places further.
func moved(e expr.Expr, by int) expr.Expr {
	e.Pos += by
	for i := range e.Kids {
		e.Kids[i] = moved(e.Kids[i], by)
	}
	return e
}

// model: one by chance.
func (w *writer) model() Model {
	var m Model
	w.token("mdp")
	for range w.rnd.IntN(8) {
		switch w.rnd.IntN(5) {
		case 0:
			w.token("const")
			m.Consts = append(m.Consts, w.definition())
		case 1:
			w.token("formula")
			m.Formulas = append(m.Formulas, w.definition())
		case 2:
			w.token("label")
			m.Labels = append(m.Labels, w.label())
		default:
			w.token("module")
			m.Modules = append(m.Modules, w.module())
		}
	}
	return m
}

// definition: behind its word.
func (w *writer) definition() Def {
	var d Def
	d.Name, d.Pos = w.name()
	w.token("=")
	d.X = w.expression()
	w.token(";")
	return d
}

// label: behind its word.
func (w *writer) label() Def {
	d := Def{Name: w.one("a", "init", " ", "//", "x' = 1;", "12345678901234567890123456789012")}
	d.Pos = w.token(strconv.Quote(d.Name))
	w.token("=")
	d.X = w.expression()
	w.token(";")
	return d
}

// module: behind its word.
func (w *writer) module() Module {
	var m Module
	m.Name, m.Pos = w.name()
	for range w.rnd.IntN(4) {
		m.Vars = append(m.Vars, w.variable())
	}
	for range w.rnd.IntN(4) {
		m.Commands = append(m.Commands, w.command())
	}
	w.token("endmodule")
	return m
}

// variable: of either kind.
func (w *writer) variable() Var {
	v := Var{Bool: w.rnd.IntN(2) == 0, HasInit: w.rnd.IntN(2) == 0}
	v.Name, v.Pos = w.name()
	w.token(":")
	if v.Bool {
		w.token("bool")
	} else {
		w.token("[")
		v.Low = w.expression()
		w.token("..")
		v.High = w.expression()
		w.token("]")
	}
	if v.HasInit {
		w.token("init")
		v.Init = w.expression()
	}
	w.token(";")
	return v
}

// command: with an action or without.
func (w *writer) command() Command {
	c := Command{Pos: w.token("[")}
	if w.rnd.IntN(2) == 0 {
		c.Action, _ = w.name()
	}
	w.token("]")
	c.Guard = w.expression()
	w.token("->")
	for i := range 1 + w.rnd.IntN(3) {
		if i > 0 {
			w.token("+")
		}
		c.Branches = append(c.Branches, w.branch())
	}
	w.token(";")
	return c
}

// branch: with a weight or without.
func (w *writer) branch() Branch {
	b := Branch{Weight: 1, Pos: -1}
	first := func(pos int) {
		if b.Pos < 0 {
			b.Pos = pos
		}
	}
	if w.rnd.IntN(2) == 0 {
		b.Weight = 1 + w.rnd.Int64N(1<<w.rnd.IntN(63))
		first(w.token(strconv.FormatInt(b.Weight, 10)))
		w.token(":")
	}
	n := w.rnd.IntN(4)
	if n == 0 {
		first(w.token("true"))
	}
	for i := range n {
		if i > 0 {
			w.token("&")
		}
		first(w.token("("))
		var s Set
		s.Name, s.Pos = w.name()
		w.tokens("'", "=")
		s.X = w.expression()
		w.token(")")
		b.Sets = append(b.Sets, s)
	}
	return b
}

// P6.1: what was written is read, with the places at which it was.
// P6.3: what is told of it is read as the same, but for places.
func TestWhatIsWrittenIsRead(t *testing.T) {
	rnd := rand.New(rand.NewPCG(6, 1))
	for range 4000 {
		w := &writer{rnd: rnd}
		right := w.model()
		s := string(w.text)
		m, err := Parse(s, 4)
		if err != nil || !reflect.DeepEqual(m, right) {
			t.Fatalf("Parse(%q): %v\n%+v; want\n%+v", s, err, m, right)
		}
		told := Print(m)
		again, err := Parse(told, 4)
		if err != nil || !reflect.DeepEqual(bare(again), bare(m)) {
			t.Fatalf("%q is told as %q, read as %+v, %v", s, told, again, err)
		}
		if Print(again) != told {
			t.Fatalf("%q is told again as %q", told, Print(again))
		}
	}
}

// P6.2: a line is what its tokens are, with blanks between just where the
// chapter has them.
func TestBlanksOfWhatIsTold(t *testing.T) {
	rnd := rand.New(rand.NewPCG(6, 2))
	for range 2000 {
		told := Print((&writer{rnd: rnd}).model())
		lines := strings.SplitAfter(told, "\n")
		if lines[len(lines)-1] != "" {
			t.Fatalf("%q doesn't end with a line", told)
		}
		inside := false
		for _, line := range lines[:len(lines)-1] {
			within := inside && line != "endmodule\n"
			if strings.HasPrefix(line, "  ") != within || strings.Contains(line[2:], "  ") {
				t.Fatalf("%q has a line %q", told, line)
			}
			word, _, _ := strings.Cut(strings.TrimSpace(line), " ")
			if ends := strings.HasSuffix(line, ";\n"); ends == (!within && (word == "mdp" || word == "module" || word == "endmodule")) || strings.Contains(line, " ;") {
				t.Fatalf("%q has a line %q", told, line)
			}
			inside = within || word == "module"
		}
	}
}

// machine: the chapter's grammar as states; of each, which tokens may stand
// there and which state comes behind. NAME, LABEL, 1 (a number above 0), 0 and
// END are any of their kind; an expression is e.
const machine = `
start     mdp>items
items     END>done const>def formula>def label>label module>module
def       NAME>equals
label     LABEL>equals
equals    =>meaning
meaning   e>stop
stop      ;>items
module    NAME>vars
vars      NAME>colon [>action endmodule>items
colon     :>type
type      bool>init [>low
low       e>dots
dots      ..>high
high      e>close
close     ]>init
init      init>first ;>vars
first     e>over
over      ;>vars
action    NAME>bracket ]>guard
bracket   ]>guard
guard     e>arrow
arrow     ->>branch
branch    1>weight 0>range true>nothing (>set
weight    :>what
what      true>nothing (>set
nothing   +>branch ;>commands
set       NAME>prime
prime     '>becomes
becomes   =>becoming
becoming  e>shut
shut      )>settings
settings  &>more +>branch ;>commands
more      (>set
commands  [>action endmodule>items
`

// ways: of the machine, by state and token.
func ways(t *testing.T) map[string]map[string]string {
	t.Helper()
	told := map[string]map[string]string{}
	for line := range strings.Lines(strings.TrimSpace(machine)) {
		fields := strings.Fields(line)
		told[fields[0]] = map[string]string{}
		for _, way := range fields[1:] {
			cut := strings.LastIndex(way, ">")
			told[fields[0]][way[:cut]] = way[cut+1:]
		}
	}
	return told
}

// classOf: a token as the machine names it.
func classOf(token scan.Token) string {
	switch token.Kind {
	case 0:
		return "END"
	case 1:
		if !strings.Contains(" "+allWords+" ", " "+token.Text+" ") {
			return "NAME"
		}
	case 2:
		if strings.Trim(token.Text, "0") == "" {
			return "0"
		}
		return "1"
	case 3:
		return "LABEL"
	}
	return token.Text
}

// verdict: the error of a text, by the machine; 0 of one that can be read.
func verdict(t *testing.T, all map[string]map[string]string, s string, depth int) (api.Errno, int) {
	t.Helper()
	r, err := scan.New(s)
	if err != nil {
		t.Fatalf("scan.New(%q): %v", s, err)
	}
	for state := "start"; state != "done"; {
		if behind, is := all[state]["e"]; is {
			if _, err := expr.Read(r, depth); err != nil {
				return errorOf(t, err)
			}
			state = behind
			continue
		}
		token := r.Take()
		behind, is := all[state][classOf(token)]
		if !is {
			return api.ErrSyntax, token.Pos
		}
		if behind == "range" {
			return api.ErrRange, token.Pos
		}
		state = behind
	}
	return 0, 0
}

// errorOf: which one, and where.
func errorOf(t *testing.T, err error) (api.Errno, int) {
	t.Helper()
	var at *api.At
	var errno api.Errno
	if !errors.As(err, &at) || !errors.As(err, &errno) {
		t.Fatalf("%v has no place", err)
	}
	return errno, at.Pos
}

// spoilt: some tokens, with something wrong at a few of them, by chance.
func spoilt(rnd *rand.Rand, l []string) []string {
	vocabulary := strings.Fields(allWords + " x y 0 1 2 \"l\" -> <= >= != => .. [ ] ( ) : ; , + - * & | ! = < > ? ' ( ) ; :")
	l = append([]string(nil), l...)
	for range 1 + rnd.IntN(2) {
		i := rnd.IntN(len(l))
		switch rnd.IntN(6) {
		case 0:
			l = append(l[:i], l[i+1:]...)
		case 1:
			l[i] = vocabulary[rnd.IntN(len(vocabulary))]
		case 2:
			l = append(l[:i], append([]string{vocabulary[rnd.IntN(len(vocabulary))]}, l[i:]...)...)
		case 3:
			l[i], l[rnd.IntN(len(l))] = l[rnd.IntN(len(l))], l[i]
		case 4:
			l = append(l[:i:i], append([]string{l[i]}, l[i:]...)...)
		case 5:
			if l[i] == "->" || l[i] == "+" {
				l = append(l[:i+1:i+1], append([]string{"0"}, l[i+1:]...)...)
			}
		}
		if len(l) == 0 {
			return l
		}
	}
	return l
}

// P6.1: the first error, token by token, is that of the chapter's grammar laid
// out as states.
func TestSpoiltTextsBesideTheMachine(t *testing.T) {
	rnd := rand.New(rand.NewPCG(6, 3))
	all := ways(t)
	seen := map[api.Errno]int{}
	for range 6000 {
		w := &writer{rnd: rnd}
		w.model()
		var l []string
		for _, token := range tokens(t, string(w.text)) {
			text := token.Text
			if token.Kind == 3 {
				text = strconv.Quote(text)
			}
			l = append(l, text)
		}
		for range 4 {
			s, depth := strings.Join(spoilt(rnd, l), " "), 1+rnd.IntN(3)
			errno, pos := verdict(t, all, s, depth)
			seen[errno]++
			if errno != 0 {
				fails(t, s, depth, errno, pos)
				continue
			}
			m, err := Parse(s, depth)
			if err != nil {
				t.Fatalf("Parse(%q, %d): %v", s, depth, err)
			}
			again, err := Parse(Print(m), depth)
			if err != nil || !reflect.DeepEqual(bare(again), bare(m)) {
				t.Fatalf("%q is told as %q, read as %+v, %v", s, Print(m), again, err)
			}
		}
	}
	for _, errno := range []api.Errno{0, api.ErrSyntax, api.ErrDeep, api.ErrRange} {
		if seen[errno] < 20 {
			t.Errorf("error %d came up %d times", errno, seen[errno])
		}
	}
}
