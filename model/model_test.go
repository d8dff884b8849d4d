package model

import (
	"errors"
	"math"
	"reflect"
	"strconv"
	"strings"
	"testing"

	"sortilege/api"
	"sortilege/expr"
	"sortilege/scan"
)

// allWords: those that can't be names.
const allWords = "mdp const formula label module endmodule bool init true false"

// whole: a text with each form of each part, kinds in any order.
const whole = `mdp
formula up = x > 0;
const N = 2 + 1; const M = 7;
module first
  x : [0..N];
  y : [0 - 1..M] init 1;
  b : bool;
  c : bool init true;
  [go] x < N & !b -> 2 : (x' = x + 1) & (b' = true) + (x' = 0);
  [] b -> true;
  [go] c -> 3 : true + (c' = !c) + 1 : true;
endmodule
label "is done" = x = N;
module second endmodule
formula f = true;
const K = N * 2;
label "b" = b;
module third z : bool; endmodule
module fourth [ stop ] false -> (x' = y); endmodule
`

// isPlain: an error without a place.
func isPlain(err error, errno api.Errno) bool { return err == error(errno) }

// isAt: an error at a place, as errors.Is and errors.As tell it.
func isAt(err error, errno api.Errno, pos int) bool {
	var at *api.At
	return errors.Is(err, errno) && errors.As(err, &at) && at.Pos == pos
}

// isZero: is nothing told?
func isZero(m Model) bool {
	return reflect.DeepEqual(m, Model{})
}

// short: a text as it may be shown.
func short(s string) string {
	if len(s) > 200 {
		return strconv.Quote(s[:200]) + " and on, of " + strconv.Itoa(len(s)) + " bytes"
	}
	return strconv.Quote(s)
}

// parse: a text that can be read.
func parse(t *testing.T, s string) Model {
	t.Helper()
	m, err := Parse(s, 64)
	if err != nil {
		var at *api.At
		errors.As(err, &at)
		t.Fatalf("Parse(%s): %v, %+v", short(s), err, at)
	}
	return m
}

// fails: a text can't be read, by this error at this place, and nothing else
// is told.
func fails(t *testing.T, s string, depth int, errno api.Errno, pos int) {
	t.Helper()
	m, err := Parse(s, depth)
	if !isZero(m) || !isAt(err, errno, pos) {
		var at *api.At
		errors.As(err, &at)
		t.Errorf("Parse(%s, %d): %+v, %v, %+v; want %d at %d", short(s), depth, m, err, at, errno, pos)
	}
}

// failsAt: likewise by ErrSyntax at the token behind the @ of a text, which isn't
// there when it is read.
func failsAt(t *testing.T, s string) {
	t.Helper()
	ahead, behind, marked := strings.Cut(s, "@")
	if !marked || strings.Contains(behind, "@") {
		t.Fatalf("%q hasn't one mark", s)
	}
	fails(t, ahead+behind, 9, api.ErrSyntax, len(ahead)+blanks(behind))
}

// blanks: how many stand at a text's beginning.
func blanks(s string) int {
	return len(s) - len(strings.TrimLeft(s, " "))
}

// bareExpr: an expression without its places.
func bareExpr(e expr.Expr) expr.Expr {
	var kids []expr.Expr
	for _, kid := range e.Kids {
		kids = append(kids, bareExpr(kid))
	}
	e.Kids, e.Pos = kids, 0
	return e
}

// bare: a model without its places, and without lists that are empty, so that
// reflect.DeepEqual compares the rest.
func bare(m Model) Model {
	var bareModules []Module
	for _, module := range m.Modules {
		bareModules = append(bareModules, bareModule(module))
	}
	return Model{Consts: bareDefs(m.Consts), Formulas: bareDefs(m.Formulas), Labels: bareDefs(m.Labels), Modules: bareModules}
}

// bareDefs: likewise.
func bareDefs(l []Def) []Def {
	var told []Def
	for _, d := range l {
		told = append(told, Def{Name: d.Name, X: bareExpr(d.X)})
	}
	return told
}

// bareModule: likewise.
func bareModule(m Module) Module {
	told := Module{Name: m.Name}
	for _, v := range m.Vars {
		v.Low, v.High, v.Init, v.Pos = bareExpr(v.Low), bareExpr(v.High), bareExpr(v.Init), 0
		told.Vars = append(told.Vars, v)
	}
	for _, c := range m.Commands {
		bareCommand := Command{Action: c.Action, Guard: bareExpr(c.Guard)}
		for _, b := range c.Branches {
			bareBranch := Branch{Weight: b.Weight}
			for _, s := range b.Sets {
				bareBranch.Sets = append(bareBranch.Sets, Set{Name: s.Name, X: bareExpr(s.X)})
			}
			bareCommand.Branches = append(bareCommand.Branches, bareBranch)
		}
		told.Commands = append(told.Commands, bareCommand)
	}
	return told
}

// of: an expression out of its text, without places.
func of(t *testing.T, s string) expr.Expr {
	t.Helper()
	e, err := expr.Parse(s, 64)
	if err != nil {
		t.Fatalf("expr.Parse(%q): %v", s, err)
	}
	return bareExpr(e)
}

// inModule: the text of a model with one module, of that inside.
func inModule(inside string) string {
	return "mdp module m " + inside + " endmodule"
}

// withBranches: likewise with one command, of these branches.
func withBranches(branches string) string {
	return inModule("[] b -> " + branches + ";")
}

// P6.1
func TestTheChaptersExample(t *testing.T) {
	s := "mdp module m x : [0..1]; [] x = 0 -> (x' = 1); endmodule"
	right := Model{Modules: []Module{{
		Name: "m",
		Vars: []Var{{Name: "x", Low: of(t, "0"), High: of(t, "1")}},
		Commands: []Command{{
			Guard:    of(t, "x = 0"),
			Branches: []Branch{{Weight: 1, Sets: []Set{{Name: "x", X: of(t, "1")}}}},
		}},
	}}}
	if m := parse(t, s); !reflect.DeepEqual(bare(m), right) {
		t.Errorf("Parse(%q): %+v", s, m)
	}
}

// P6.1
func TestDepthsThatCantBe(t *testing.T) {
	for _, depth := range []int{math.MinInt, -64, -1, 0, 65, 66, 128, math.MaxInt} {
		// ErrArg comes ahead of what else is wrong.
		for _, s := range []string{"mdp", "", "mdp mdp", "#", "\"", "99999999999999999999", strings.Repeat(" ", 65537), withBranches("0:true")} {
			if m, err := Parse(s, depth); !isZero(m) || !isPlain(err, api.ErrArg) {
				t.Errorf("Parse(%s, %d): %+v, %v", short(s), depth, m, err)
			}
		}
	}
}

// P6.1
func TestDepthsThatMayBe(t *testing.T) {
	for depth := 1; depth <= 64; depth++ {
		for _, s := range []string{"mdp", "mdp const a = 1;", withBranches("(x'=1)")} {
			if m, err := Parse(s, depth); err != nil || !reflect.DeepEqual(m, parse(t, s)) {
				t.Errorf("Parse(%q, %d): %+v, %v", s, depth, m, err)
			}
		}
	}
}

// P6.1
func TestTextsThatScanRefuses(t *testing.T) {
	if m, err := Parse(strings.Repeat(" ", 65537), 9); !isZero(m) || !isPlain(err, api.ErrLong) {
		t.Errorf("Parse of too many bytes: %+v, %v", m, err)
	}
	if m, err := Parse("mdp"+strings.Repeat(" ", 65533), 9); err != nil || !isZero(m) {
		t.Errorf("Parse of as many bytes as may be: %+v, %v", m, err)
	}
	fails(t, strings.Repeat(" ", 65536), 9, api.ErrSyntax, 65536)
	fails(t, "#", 9, api.ErrSyntax, 0)
	fails(t, "mdp label \"\" = 1;", 9, api.ErrSyntax, 10)
	fails(t, "mdp const a = 9223372036854775808;", 9, api.ErrOver, 14)
	fails(t, withBranches("9223372036854775808 : true"), 9, api.ErrOver, 21)
	// The whole text is read as tokens ahead of the first item.
	fails(t, "init #", 9, api.ErrSyntax, 5)
	fails(t, "mdp mdp 9223372036854775808", 9, api.ErrOver, 8)
	fails(t, "mdp const a = ((1)); \x00", 1, api.ErrSyntax, 21)
	fails(t, withBranches("0 : true")+" \"", 9, api.ErrSyntax, len(withBranches("0 : true"))+1)
}

// P6.1: a model with nothing in it.
func TestNothingButTheWord(t *testing.T) {
	for _, s := range []string{"mdp", " mdp ", "// a\nmdp// b", "mdp\n// const"} {
		if m := parse(t, s); !isZero(m) {
			t.Errorf("Parse(%q): %+v", s, m)
		}
	}
	for _, s := range []string{"@", "  @", "// mdp@", "@Mdp", "@mdp_", "@const a = 1;", "@\"mdp\"", "@1", "@[", "@module m endmodule"} {
		failsAt(t, s)
	}
}

// P6.1: items of one kind stand in their order, whatever stands between.
func TestItemsOfOneKindStandInTheirOrder(t *testing.T) {
	m := bare(parse(t, whole))
	if right := []Def{{Name: "N", X: of(t, "2+1")}, {Name: "M", X: of(t, "7")}, {Name: "K", X: of(t, "N*2")}}; !reflect.DeepEqual(m.Consts, right) {
		t.Errorf("Consts: %+v", m.Consts)
	}
	if right := []Def{{Name: "up", X: of(t, "x>0")}, {Name: "f", X: of(t, "true")}}; !reflect.DeepEqual(m.Formulas, right) {
		t.Errorf("Formulas: %+v", m.Formulas)
	}
	if right := []Def{{Name: "is done", X: of(t, "x=N")}, {Name: "b", X: of(t, "b")}}; !reflect.DeepEqual(m.Labels, right) {
		t.Errorf("Labels: %+v", m.Labels)
	}
	var names []string
	for _, module := range m.Modules {
		names = append(names, module.Name)
	}
	if strings.Join(names, " ") != "first second third fourth" {
		t.Errorf("Modules: %v", names)
	}
}

// P6.1: the kinds may come in any order, all of them.
func TestKindsInAnyOrder(t *testing.T) {
	items := []string{"const a = 1;", "formula b = 2;", "label \"c\" = 3;", "module d endmodule"}
	right := bare(parse(t, "mdp "+strings.Join(items, " ")))
	if len(right.Consts) != 1 || len(right.Formulas) != 1 || len(right.Labels) != 1 || len(right.Modules) != 1 {
		t.Fatalf("not one of each: %+v", right)
	}
	for i := range 256 {
		order := []int{i & 3, i >> 2 & 3, i >> 4 & 3, i >> 6}
		s, seen := "mdp", 0
		for _, k := range order {
			s += " " + items[k]
			seen |= 1 << k
		}
		if seen != 15 {
			continue
		}
		if m := parse(t, s); !reflect.DeepEqual(bare(m), right) {
			t.Errorf("Parse(%q): %+v", s, m)
		}
	}
}

// P6.1: two of a name are read; it isn't asked here what a name stands for.
func TestNamesMayStandTwice(t *testing.T) {
	m := parse(t, "mdp const a=a; const a=1; formula a=b; label \"a\"=1; label \"a\"=2; module a a:bool; a:bool; [a] a -> (a'=a)&(a'=a); endmodule module a endmodule")
	if len(m.Consts) != 2 || len(m.Labels) != 2 || len(m.Modules) != 2 || len(m.Modules[0].Vars) != 2 || len(m.Modules[0].Commands[0].Branches[0].Sets) != 2 {
		t.Errorf("Parse: %+v", m)
	}
}

// P6.1
func TestModules(t *testing.T) {
	for inside, right := range map[string][2]int{
		"":                                   {0, 0},
		"x : bool;":                          {1, 0},
		"x : bool; y : bool; z : [0..1];":    {3, 0},
		"[] b -> true;":                      {0, 1},
		"[] b -> true; [a] c -> true;":       {0, 2},
		"x : bool; [] b -> true;":            {1, 1},
		"x:bool;y:bool;[]b->true;[]b->true;": {2, 2},
	} {
		m := parse(t, inModule(inside))
		if got := [2]int{len(m.Modules[0].Vars), len(m.Modules[0].Commands)}; len(m.Modules) != 1 || m.Modules[0].Name != "m" || got != right {
			t.Errorf("%q: %+v", inside, m)
		}
	}
}

// P6.1
func TestModulesThatCantBe(t *testing.T) {
	for _, s := range []string{
		"mdp module @\"m\" endmodule",
		"mdp module @1 endmodule",
		"mdp module @[] b -> true; endmodule",
		"mdp module m @; endmodule",
		"mdp module m @const a = 1; endmodule",
		"mdp module m @module n endmodule endmodule",
		"mdp module m @\"x\" : bool; endmodule",
		"mdp module m @\"endmodule\"",
		"mdp module m @1 : bool; endmodule",
		// Variables stand ahead of commands.
		"mdp module m [] b -> true; @x : bool; endmodule",
		"mdp module m x : bool; [] b -> true; @y : bool; [] b -> true; endmodule",
		"mdp module m [] b -> true;@",
		"mdp module m endmodule @; const a = 1;",
		"mdp module m endmodule @endmodule",
	} {
		failsAt(t, s)
	}
}

// P6.1
func TestVariables(t *testing.T) {
	for s, right := range map[string]Var{
		"x : bool;":                   {Name: "x", Bool: true},
		"x : bool init true;":         {Name: "x", Bool: true, HasInit: true, Init: of(t, "true")},
		"x : bool init a|b;":          {Name: "x", Bool: true, HasInit: true, Init: of(t, "a|b")},
		"_9 : [0..1];":                {Name: "_9", Low: of(t, "0"), High: of(t, "1")},
		"x:[-1..N*2]init N-1;":        {Name: "x", Low: of(t, "-1"), High: of(t, "N*2"), HasInit: true, Init: of(t, "N-1")},
		"x : [a?b:c..d=>e] init (0);": {Name: "x", Low: of(t, "a?b:c"), High: of(t, "d=>e"), HasInit: true, Init: of(t, "0")},
		// Words of models are names like others in an expression.
		"x : [init..bool] init init;": {Name: "x", Low: of(t, "init"), High: of(t, "bool"), HasInit: true, Init: of(t, "init")},
	} {
		m := bare(parse(t, inModule(s)))
		if l := m.Modules[0].Vars; len(l) != 1 || !reflect.DeepEqual(l[0], right) {
			t.Errorf("%q: %+v; want %+v", s, l, right)
		}
	}
}

// P6.1
func TestVariablesThatCantBe(t *testing.T) {
	for _, s := range []string{
		"x @bool;", "x @= bool;", "x : @true;", "x : @Bool;", "x : @\"bool\";", "x : @;", "x : @0..1;", "x : @(0..1);", "x : @y;",
		"x : [@];", "x : [@..1];", "x : [0@];", "x : [0@,1];", "x : [0..@];", "x : [0..1@;", "x : [0..1@);", "x : [0..1@..2];",
		"x : bool @[0..1];", "x : bool @bool;", "x : bool @= true;", "x : bool @\"init\" true;", "x : bool init@;", "x : bool init true @init true;",
		"x : bool init true@ y : bool;", "x : [0..1]@, y : bool;", "x : [0..1] @y : bool;", "x @' : bool;", "x@, y : bool;",
	} {
		failsAt(t, inModule(s))
	}
}

// P6.1
func TestCommands(t *testing.T) {
	one := []Branch{{Weight: 1}}
	x, y := Set{Name: "x", X: of(t, "1")}, Set{Name: "y", X: of(t, "x+1")}
	for s, right := range map[string]Command{
		"[] b -> true;":                       {Guard: of(t, "b"), Branches: one},
		"[a] b -> true;":                      {Action: "a", Guard: of(t, "b"), Branches: one},
		"[_9]b->true;":                        {Action: "_9", Guard: of(t, "b"), Branches: one},
		"[] a=>b|c ? d : -1<x -> true;":       {Guard: of(t, "a=>b|c ? d : -1<x"), Branches: one},
		"[] b -> 1:true;":                     {Guard: of(t, "b"), Branches: one},
		"[] b -> 007:true;":                   {Guard: of(t, "b"), Branches: []Branch{{Weight: 7}}},
		"[] b -> 9223372036854775807 : true;": {Guard: of(t, "b"), Branches: []Branch{{Weight: math.MaxInt64}}},
		"[] b -> true + true + 2:true;":       {Guard: of(t, "b"), Branches: []Branch{{Weight: 1}, {Weight: 1}, {Weight: 2}}},
		"[] b -> (x'=1);":                     {Guard: of(t, "b"), Branches: []Branch{{Weight: 1, Sets: []Set{x}}}},
		"[] b -> 3 : ( x ' = 1 );":            {Guard: of(t, "b"), Branches: []Branch{{Weight: 3, Sets: []Set{x}}}},
		"[] b -> (x'=1)&(y'=x+1)&(x'=1);":     {Guard: of(t, "b"), Branches: []Branch{{Weight: 1, Sets: []Set{x, y, x}}}},
		"[] b -> 2:(y'=x+1)&(x'=1)+true+(x'=1)+4:(y'=x+1);": {
			Guard:    of(t, "b"),
			Branches: []Branch{{Weight: 2, Sets: []Set{y, x}}, {Weight: 1}, {Weight: 1, Sets: []Set{x}}, {Weight: 4, Sets: []Set{y}}},
		},
		"[] (b) -> (x'=(1));":     {Guard: of(t, "b"), Branches: []Branch{{Weight: 1, Sets: []Set{x}}}},
		"[] mdp -> (x'=module);":  {Guard: of(t, "mdp"), Branches: []Branch{{Weight: 1, Sets: []Set{{Name: "x", X: of(t, "module")}}}}},
		"[] b -> (x'=a&b+c?d:e);": {Guard: of(t, "b"), Branches: []Branch{{Weight: 1, Sets: []Set{{Name: "x", X: of(t, "a&b+c?d:e")}}}}},
	} {
		m := bare(parse(t, inModule(s)))
		if l := m.Modules[0].Commands; len(l) != 1 || !reflect.DeepEqual(l[0], right) {
			t.Errorf("%q: %+v; want %+v", s, l, right)
		}
	}
}

// P6.1
func TestCommandsThatCantBe(t *testing.T) {
	for _, s := range []string{
		"[@1] b -> true;", "[@\"a\"] b -> true;", "[a@ b] b -> true;", "[@[]] b -> true;", "[@-> true;", "[a@-> true;", "[@", "[a@",
		"[] @-> true;", "[] @;", "[] b => @;", "[] b@;", "[] b @: true;", "[] b - @> true;",
		"[] b @c -> true;", "[] b = c @= d -> true;", "[] b -> @;", "[] b -> true @-> true;", "[] b -> true@", "[] b -> true @[] b -> true;",
	} {
		failsAt(t, inModule(s))
	}
}

// P6.1
func TestBranchesThatCantBe(t *testing.T) {
	for _, s := range []string{
		"@", "@false", "@True", "@\"true\"", "@x", "@x' = 1", "@:true", "@-1:true", "@+", "@& (x'=1)", "@'", "@[",
		"1@", "1 @true", "1 @(x'=1)", "1 @= true", "1 @2 : true", "1:@", "1:@1:true", "1:@2", "1:@false", "1:@:true", "1:@x", "1:@+true", "1:@-true",
		"true @true", "true @(x'=1)", "true @& true", "true @& (x'=1)", "true @: true", "true @| true", "true @, true", "true @1:true", "true + @", "true + @+ true", "true + @& true",
		"(@", "(@)", "(@true)", "(@1)", "(@\"x\"'=1)", "(@(x'=1))", "(x@)", "(x@=1)", "(x'@)", "(x'@'=1)", "(x'@1)", "(x'@:1)", "(x'@=>1)", "(x'=@=1)",
		"(x'=@)", "(x'=@;", "(x'=1@", "(x'=1@;", "(x'=1@]", "(x'=1 @2)", "(x'=1@,y'=1)", "(x'=1@'=1)",
		"(x'=1) @(y'=1)", "(x'=1) @true", "(x'=1) @| (y'=1)", "(x'=1) @)", "(x'=1) & @", "(x'=1) & @true", "(x'=1) & @+ true", "(x'=1) & @1:(y'=1)", "(x'=1) & @& (y'=1)", "(x'=1) & @x", "(x'=1) + @", "(x'=1) @: true",
	} {
		failsAt(t, withBranches(s))
	}
}

// P6.1
func TestAWeightOf0(t *testing.T) {
	at := strings.Index(withBranches("0"), "0")
	for _, s := range []string{"0 : true", "0:(x'=1)", "000 : true", "0 : true + 0 : true", "0 : true + true"} {
		fails(t, withBranches(s), 9, api.ErrRange, at)
	}
	fails(t, withBranches("true + 0 : true"), 9, api.ErrRange, at+7)
	fails(t, withBranches("(x'=0) + 0 : (x'=1)"), 9, api.ErrRange, at+9)
	// It comes ahead of all that is wrong behind it, and behind all that is ahead.
	for _, s := range []string{"0", "0 true", "0 : x", "0 : true + + true", "0 : (x'=((1)))", "0 0 : true"} {
		fails(t, withBranches(s), 1, api.ErrRange, at)
	}
	fails(t, withBranches("1 : 0 : true"), 9, api.ErrSyntax, at+4)
	fails(t, withBranches("x + 0 : true"), 9, api.ErrSyntax, at)
	fails(t, "mdp const init = 1; "+withBranches("0 : true")[4:], 9, api.ErrSyntax, 10)
	fails(t, withBranches("(x'=((1))) + 0 : true"), 1, api.ErrDeep, at+5)
	// Elsewhere a 0 is a number like others.
	parse(t, "mdp const a=0; module m x:[0..0] init 0; [] 0 -> 10:(x'=0); endmodule")
}

// P6.1
func TestDefinitionsThatCantBe(t *testing.T) {
	for _, s := range []string{
		"const @", "const @;", "const @1 = 1;", "const @\"a\" = 1;", "const @= 1;", "const a @;", "const a @1;", "const a @: 1;", "const a @=> 1;", "const a @b = 1;",
		"const a = @;", "const a = 1@", "const a = 1 @const b = 1;", "const a = 1 @2;", "const a = 1 = 2 @= 3;", "const a = 1@, b = 2;", "const a = 1; @; const b = 1;",
		"formula @", "formula @\"a\" = 1;", "formula a @1;", "formula a = @;", "formula a = 1@", "formula a = 1 @formula b = 1;", "formula a = (1@;",
		"label @", "label @a = 1;", "label @1 = 1;", "label @= 1;", "label \"a\" @;", "label \"a\" @\"b\" = 1;", "label \"a\" @: 1;", "label \"a\" = @;", "label \"a\" = @\"b\";", "label \"a\" = 1@", "label \"a\" = 1 @label \"b\" = 1;",
	} {
		failsAt(t, "mdp "+s)
	}
}

// P6.1: what stands behind the last item, or between items.
func TestWhatIsNoItem(t *testing.T) {
	for _, ahead := range []string{"", "const a = 1; ", "formula a = 1; ", "label \"a\" = 1; ", "module m endmodule "} {
		for _, s := range []string{"mdp", "endmodule", "bool", "init", "true", "false", "x", "Const", "constant", "\"const\"", "1", ";", "[", "(", "=", "'"} {
			failsAt(t, "mdp "+ahead+"@"+s)
			failsAt(t, "mdp "+ahead+"@"+s+" const b = 2;")
		}
	}
}

// P6.1: the words that can't be names, in each place where one stands.
func TestWordsThatCantBeNames(t *testing.T) {
	words := strings.Fields(allWords)
	if len(words) != 10 {
		t.Fatalf("words: %v", words)
	}
	places := []string{
		"mdp const @ = 1;", "mdp formula @ = 1;", "mdp module @ endmodule", "mdp module m @ : bool; endmodule",
		"mdp module m x : bool; @ : bool; endmodule", "mdp module m [@] b -> true; endmodule", "mdp module m [] b -> true; [@] b -> true; endmodule",
		"mdp module m [] b -> (@' = 1); endmodule", "mdp module m [] b -> (x' = 1) & (@' = 1); endmodule", "mdp module m [] b -> 2 : true + 3 : (@' = 1); endmodule",
	}
	for _, s := range places {
		for _, word := range words {
			text, at := strings.Replace(s, "@", word, 1), strings.Index(s, "@")
			if word == "endmodule" && strings.Contains(s, "@ :") {
				// There it ends the module, and : is no item.
				at += len("endmodule ")
			}
			fails(t, text, 9, api.ErrSyntax, at)
		}
		for _, name := range strings.Fields("MDP Const formulas _label mod endModule boolean init0 TRUE False b _ U min") {
			parse(t, strings.Replace(s, "@", name, 1))
		}
	}
	// A label's text may be any.
	for _, word := range words {
		if m := parse(t, "mdp label \""+word+"\" = 1;"); m.Labels[0].Name != word {
			t.Errorf("label %q: %+v", word, m)
		}
	}
}

// P6.1: the words of models are names like others in expressions, but for true
// and false.
func TestWordsInExpressions(t *testing.T) {
	for _, word := range strings.Fields(allWords) {
		right, err := expr.Parse(word, 9)
		if err != nil {
			t.Fatalf("expr.Parse(%q): %v", word, err)
		}
		m := parse(t, "mdp const a = "+word+"; module m x : ["+word+".."+word+"] init "+word+"; ["+"] "+word+" -> (x' = "+word+"); endmodule")
		x, c := m.Modules[0].Vars[0], m.Modules[0].Commands[0]
		for i, e := range []expr.Expr{m.Consts[0].X, x.Low, x.High, x.Init, c.Guard, c.Branches[0].Sets[0].X} {
			if !expr.Same(e, right) {
				t.Errorf("%q, %d: %+v", word, i, e)
			}
		}
	}
}

// tokens: of a text that scan reads, without the end.
func tokens(t *testing.T, s string) []scan.Token {
	t.Helper()
	l, err := scan.Tokens(s)
	if err != nil {
		t.Fatalf("scan.Tokens(%s): %v", short(s), err)
	}
	return l[:len(l)-1]
}

// P6.1: a text that ends ahead of any of its tokens can't be read, but where an
// item might begin.
func TestTextsThatEndTooEarly(t *testing.T) {
	inside, within := false, ""
	for i, token := range tokens(t, whole) {
		s := whole[:token.Pos]
		if i > 0 && !inside {
			parse(t, s)
		} else {
			fails(t, s, 9, api.ErrSyntax, token.Pos)
		}
		switch token.Text {
		case "const", "formula", "label", "module":
			inside, within = true, token.Text
		case ";":
			inside = within == "module"
		case "endmodule":
			inside = false
		}
	}
	if inside {
		t.Error("the whole text ends too early")
	}
	parse(t, whole)
}

// P6.1: a sign that stands nowhere in a model is refused at its place.
func TestASignThatStandsNowhere(t *testing.T) {
	l := tokens(t, whole)
	for _, token := range l {
		fails(t, whole[:token.Pos]+" , "+whole[token.Pos:], 9, api.ErrSyntax, token.Pos+1)
	}
	fails(t, whole+",", 9, api.ErrSyntax, len(whole))
}

// P6.1: where each part of the tree stands.
func TestPlaces(t *testing.T) {
	s := `mdp const A=1; label  "L"=2; module  M x:[3..4] init 5; y:bool init 6; z : bool; [ Act ] 7->8:(p'=9)&(q'=10)+( r ' = 11 ) + true + 12 : true; []13 -> true; endmodule formula  F = 14;`
	at := func(what string) int {
		if strings.Count(s, what) != 1 {
			t.Fatalf("%q isn't there once", what)
		}
		return strings.Index(s, what)
	}
	num := func(n int64, ahead string) expr.Expr {
		digits := strconv.FormatInt(n, 10)
		return expr.Expr{Op: "num", N: n, Pos: at(ahead+digits) + len(ahead)}
	}
	right := Model{
		Consts:   []Def{{"A", num(1, "A="), at("A=")}},
		Formulas: []Def{{"F", num(14, " = "), at("F = ")}},
		Labels:   []Def{{"L", num(2, `"=`), at(`"L"`)}},
		Modules: []Module{{
			Name: "M",
			Vars: []Var{
				{Name: "x", Low: num(3, "["), High: num(4, ".."), Init: num(5, "init "), HasInit: true, Pos: at("x:")},
				{Name: "y", Bool: true, Init: num(6, "init "), HasInit: true, Pos: at("y:")},
				{Name: "z", Bool: true, Pos: at("z :")},
			},
			Commands: []Command{
				{
					Action: "Act",
					Guard:  num(7, "] "),
					Branches: []Branch{
						{8, []Set{{"p", num(9, "p'="), at("p'")}, {"q", num(10, "q'="), at("q'")}}, at("8:")},
						{1, []Set{{"r", num(11, "' = "), at("r ' ")}}, at("( r")},
						{1, nil, at("true + 12")},
						{12, nil, at("12 : true")},
					},
					Pos: at("[ Act"),
				},
				{Guard: num(13, "[]"), Branches: []Branch{{1, nil, at("true; endmodule")}}, Pos: at("[]")},
			},
			Pos: at("M x"),
		}},
	}
	if m := parse(t, s); !reflect.DeepEqual(m, right) {
		t.Errorf("Parse(%q):\n%+v; want\n%+v", s, m, right)
	}
}

// P6.1: a place is that of a byte of the whole text.
func TestPlacesBehindBlanksAndComments(t *testing.T) {
	s := "// mdp\n\r\n\tmdp//\nmodule//x\nm // \xc3\xa4\xff\n[\n]//b\n(b)->true;endmodule"
	m := parse(t, s)
	c := m.Modules[0].Commands[0]
	if at := strings.Index(s, "\nm ") + 1; m.Modules[0].Pos != at {
		t.Errorf("m: %d; want %d", m.Modules[0].Pos, at)
	}
	if c.Pos != strings.Index(s, "[") || c.Guard.Pos != strings.Index(s, "(b)") || c.Branches[0].Pos != strings.Index(s, "true") {
		t.Errorf("the command: %+v", c)
	}
}

// exprPlaces: texts of models with an expression at each @, one by one.
var exprPlaces = []string{
	"mdp const a = @;", "mdp const a = 1; const b = @;", "mdp formula a = @;", "mdp label \"a\" = @;",
	"mdp module m x : [@..1]; endmodule", "mdp module m x : [0..@]; endmodule", "mdp module m x : [0..1] init @; endmodule", "mdp module m x : bool init @; endmodule",
	"mdp module m [] @ -> true; endmodule", "mdp module m [a] @ -> true; endmodule", "mdp module m [] b -> (x'=@); endmodule",
	"mdp module m [] b -> (x'=1)&(y'=@); endmodule", "mdp module m [] b -> true + 3:(x'=@); endmodule", "mdp module n x:bool; endmodule module m [] b -> true; [] @ -> true; endmodule",
}

// P6.1: errors of expr at their places.
func TestErrorsOfExpr(t *testing.T) {
	for _, s := range exprPlaces {
		at := strings.Index(s, "@")
		for _, e := range []string{"@", "!@", "a +@", "a + @* b", "(a@,", "a ? b@", "(a@,b)", "(@)", "a @b", "a = b @= c", "a @(b)", "@\"a\"", "-@!a"} {
			failsAt(t, s[:at]+e+s[at+1:])
		}
	}
}

// P6.1: each expression may be as deep as the whole is told, on its own.
func TestTheDepthIsHandedOn(t *testing.T) {
	for _, s := range exprPlaces {
		at := strings.Index(s, "@")
		for _, depth := range []int{1, 2, 3, 63, 64} {
			deep := strings.Repeat("(", depth-1) + "1" + strings.Repeat(")", depth-1)
			if m, err := Parse(strings.Replace(s, "@", deep, 1), depth); err != nil || isZero(m) {
				t.Errorf("Parse(%q, %d), with %s: %+v, %v", s, depth, deep, m, err)
			}
			deeper := strings.Repeat("(", depth) + "1" + strings.Repeat(")", depth)
			fails(t, strings.Replace(s, "@", deeper, 1), depth, api.ErrDeep, at+depth)
		}
	}
}

// P6.1: of two errors the first one in the text is told.
func TestTheFirstErrorIsTold(t *testing.T) {
	wrong := []struct {
		text  string
		errno api.Errno
		at    int
	}{
		{"const init = 1;", api.ErrSyntax, 6},
		{"const a = ((1));", api.ErrDeep, 11},
		{"module m [] b -> 0:true; endmodule", api.ErrRange, 17},
		{"label a = 1;", api.ErrSyntax, 6},
		{"module m x : bool; [true] b -> true; endmodule", api.ErrSyntax, 20},
		{"module m x : bool init ((1)); endmodule", api.ErrDeep, 24},
	}
	for _, first := range wrong {
		for _, second := range wrong {
			fails(t, "mdp const ok = 1; "+first.text+" "+second.text, 1, first.errno, 18+first.at)
		}
	}
}

// P6.1: as many items as a text holds.
func TestLongTexts(t *testing.T) {
	for item, count := range map[string]func(m Model) int{
		"const a=1;":         func(m Model) int { return len(m.Consts) },
		"formula a=1;":       func(m Model) int { return len(m.Formulas) },
		"label\"a\"=1;":      func(m Model) int { return len(m.Labels) },
		"module a endmodule": func(m Model) int { return len(m.Modules) },
	} {
		n := 65000 / (len(item) + 1)
		if m := parse(t, "mdp "+strings.Repeat(item+" ", n)); count(m) != n {
			t.Errorf("%q: %d; want %d", item, count(m), n)
		}
	}
	m := parse(t, inModule(strings.Repeat("x:bool;", 3000)+strings.Repeat("[]b->true;", 3000)))
	if len(m.Modules[0].Vars) != 3000 || len(m.Modules[0].Commands) != 3000 {
		t.Errorf("%d variables, %d commands", len(m.Modules[0].Vars), len(m.Modules[0].Commands))
	}
	m = parse(t, withBranches(strings.Repeat("true+", 3000)+strings.Repeat("(x'=1)&", 3000)+"(x'=1)"))
	if l := m.Modules[0].Commands[0].Branches; len(l) != 3001 || len(l[3000].Sets) != 3001 {
		t.Errorf("%d branches", len(l))
	}
}

// P6.2
func TestPrintOfTheWhole(t *testing.T) {
	right := `mdp
const N = 2 + 1;
const M = 7;
const K = N * 2;
formula up = x > 0;
formula f = true;
label "is done" = x = N;
label "b" = b;
module first
  x : [0..N];
  y : [0 - 1..M] init 1;
  b : bool;
  c : bool init true;
  [go] x < N & !b -> 2 : (x' = x + 1) & (b' = true) + 1 : (x' = 0);
  [] b -> 1 : true;
  [go] c -> 3 : true + 1 : (c' = !c) + 1 : true;
endmodule
module second
endmodule
module third
  z : bool;
endmodule
module fourth
  [stop] false -> 1 : (x' = y);
endmodule
`
	if told := Print(parse(t, whole)); told != right {
		t.Errorf("Print:\n%s", told)
	}
}

// P6.2
func TestPrintOfEachForm(t *testing.T) {
	e := of(t, "!x = 1 & -(y + 2) * 3 < z ? a => b : 0")
	told := "!x = 1 & -(y + 2) * 3 < z ? a => b : 0"
	zero, one := of(t, "0"), of(t, "1")
	for right, m := range map[string]Model{
		"":                                                {},
		"const a = " + told + ";\n":                       {Consts: []Def{{Name: "a", X: e}}},
		"const a = 0;\nconst b = 1;\n":                    {Consts: []Def{{"a", zero, 9}, {"b", one, 5}}},
		"formula a = " + told + ";\n":                     {Formulas: []Def{{Name: "a", X: e}}},
		"formula a = 0;\nformula b = 1;\n":                {Formulas: []Def{{"a", zero, 9}, {"b", one, 5}}},
		"label \"a b!\" = " + told + ";\n":                {Labels: []Def{{Name: "a b!", X: e}}},
		"label \"a\" = 0;\nlabel \"b\" = 1;\n":            {Labels: []Def{{"a", zero, 9}, {"b", one, 5}}},
		"module m\nendmodule\n":                           {Modules: []Module{{Name: "m"}}},
		"module m\nendmodule\nmodule n\nendmodule\n":      {Modules: []Module{{Name: "m", Vars: []Var{}, Commands: []Command{}}, {Name: "n", Pos: 7}}},
		"module m\n  x : bool;\nendmodule\n":              {Modules: []Module{{Name: "m", Vars: []Var{{Name: "x", Bool: true}}}}},
		"module m\n  x : bool init " + told + ";\n":       {Modules: []Module{{Name: "m", Vars: []Var{{Name: "x", Bool: true, Init: e, HasInit: true}}}}},
		"module m\n  x : [" + told + ".." + told + "];\n": {Modules: []Module{{Name: "m", Vars: []Var{{Name: "x", Low: e, High: e}}}}},
		"module m\n  x : [0..1] init " + told + ";\n":     {Modules: []Module{{Name: "m", Vars: []Var{{Name: "x", Low: zero, High: one, Init: e, HasInit: true}}}}},
		"module m\n  [] " + told + " -> 1 : true;\n":      {Modules: []Module{{Name: "m", Commands: []Command{{Guard: e, Branches: []Branch{{Weight: 1}}}}}}},
		"module m\n  [a] 0 -> 7 : true;\n":                {Modules: []Module{{Name: "m", Commands: []Command{{Action: "a", Guard: zero, Branches: []Branch{{Weight: 7, Sets: []Set{}}}}}}}},
		"module m\n  [] 0 -> 9223372036854775807 : (x' = " + told + ");\n": {Modules: []Module{{Name: "m", Commands: []Command{{
			Guard: zero, Branches: []Branch{{Weight: math.MaxInt64, Sets: []Set{{Name: "x", X: e}}}},
		}}}}},
		"module m\n  [] 0 -> 1 : (x' = 0) & (y' = 1) & (x' = 1) + 2 : true + 3 : (y' = 0);\n": {Modules: []Module{{Name: "m", Commands: []Command{{
			Guard: zero, Branches: []Branch{{Weight: 1, Sets: []Set{{Name: "x", X: zero}, {Name: "y", X: one}, {Name: "x", X: one}}}, {Weight: 2}, {Weight: 3, Sets: []Set{{Name: "y", X: zero}}}},
		}}}}},
		"module m\n  x : bool;\n  y : bool;\n  [a] 0 -> 1 : true;\n  [] 1 -> 1 : true;\nendmodule\n": {Modules: []Module{{
			Name: "m", Vars: []Var{{Name: "x", Bool: true}, {Name: "y", Bool: true}},
			Commands: []Command{{Action: "a", Guard: zero, Branches: []Branch{{Weight: 1}}}, {Guard: one, Branches: []Branch{{Weight: 1}}}},
		}}},
	} {
		right = "mdp\n" + right
		if strings.Contains(right, "module m") && !strings.HasSuffix(right, "endmodule\n") {
			right += "endmodule\n"
		}
		if s := Print(m); s != right {
			t.Errorf("Print(%+v):\n%s; want\n%s", m, s, right)
		}
		// P6.3
		if again := parse(t, right); !reflect.DeepEqual(bare(again), bare(m)) {
			t.Errorf("%q is read as %+v", right, again)
		}
	}
}

// P6.2: the kinds are told in their order, whatever came first.
func TestPrintPutsKindsInOrder(t *testing.T) {
	s := "mdp module m endmodule label \"l\" = 1; formula f = 2; const c = 3; module n endmodule"
	if told := Print(parse(t, s)); told != "mdp\nconst c = 3;\nformula f = 2;\nlabel \"l\" = 1;\nmodule m\nendmodule\nmodule n\nendmodule\n" {
		t.Errorf("Print: %q", told)
	}
}

// P6.2: what a variable, or one without a beginning, has beside isn't told.
func TestPrintLeavesOutWhatIsNotMeant(t *testing.T) {
	zero := of(t, "0")
	m := Model{Modules: []Module{{Name: "m", Vars: []Var{{Name: "x", Bool: true, Low: zero, High: zero, Init: zero}, {Name: "y", Low: zero, High: zero, Init: zero}}}}}
	if told := Print(m); told != "mdp\nmodule m\n  x : bool;\n  y : [0..0];\nendmodule\n" {
		t.Errorf("Print: %q", told)
	}
}

// R1: structs with anything in them.
func TestPrintOfAnything(t *testing.T) {
	odd := expr.Expr{Op: "\x00?", Name: "\xff", N: math.MinInt64, Kids: make([]expr.Expr, 5), Pos: -1}
	m := Model{
		Consts: []Def{{}, {Name: "\n;", X: odd, Pos: -1}}, Formulas: make([]Def, 2), Labels: []Def{{Name: "\""}},
		Modules: []Module{{}, {Name: "\x00", Vars: []Var{{}, {Low: odd, High: odd, Init: odd, HasInit: true}}, Commands: []Command{{}, {Action: "]", Guard: odd, Branches: []Branch{{}, {Weight: math.MinInt64, Sets: []Set{{}, {Name: "'", X: odd}}}}}}}},
	}
	told := Print(m)
	if lines := strings.Count(told, "\n"); lines != 1+2+1+2+1+2+6 || !strings.HasPrefix(told, "mdp\n") || !strings.Contains(told, "-9223372036854775808 : (") {
		t.Errorf("Print: %d lines: %q", lines, told)
	}
}

// R1: texts of any bytes, and ones that hold words without sense.
func TestTextsOfAnyBytes(t *testing.T) {
	for c := range 256 {
		for _, s := range []string{string([]byte{byte(c)}), "mdp" + string([]byte{byte(c)}), "mdp " + string([]byte{byte(c)}) + " const a = 1;"} {
			m, err := Parse(s, 9)
			if err != nil && !isZero(m) {
				t.Errorf("Parse(%q): %+v, %v", s, m, err)
			}
		}
	}
	for _, s := range []string{strings.Repeat("mdp ", 16000), strings.Repeat("module m ", 7000), "mdp const a = " + strings.Repeat("(", 65000), inModule(strings.Repeat("[", 65000)), withBranches(strings.Repeat("(", 65000))} {
		if m, err := Parse(s, 64); err == nil || !isZero(m) {
			t.Errorf("Parse(%s): %+v, %v", short(s), m, err)
		}
	}
}

// R4: what is handed in stays as it is, and two answers share nothing.
func TestNothingIsSharedOrChanged(t *testing.T) {
	m, right := parse(t, whole), parse(t, whole)
	told := Print(m)
	if !reflect.DeepEqual(m, right) || Print(m) != told {
		t.Errorf("Print changed %+v", m)
	}
	first := &m.Modules[0]
	m.Consts[0].X.Kids[0].N, m.Formulas[0].Name, m.Labels[0].Pos = 99, "g", 99
	first.Vars[0].Name, first.Commands[0].Branches[0].Sets[0].Name, first.Commands[0].Guard.Kids[0].Op = "g", "g", "g"
	if again := parse(t, whole); !reflect.DeepEqual(again, right) {
		t.Errorf("a later answer: %+v", again)
	}
	// No list has room in which another one lies.
	m = parse(t, whole)
	_ = append(m.Consts, Def{Name: "g"})
	_ = append(m.Modules, Module{Name: "g"})
	_ = append(m.Modules[0].Vars, Var{Name: "g"})
	_ = append(m.Modules[0].Commands[0].Branches, Branch{})
	_ = append(m.Modules[0].Commands[0].Branches[0].Sets, Set{Name: "g"})
	if !reflect.DeepEqual(m, right) {
		t.Errorf("lists that share: %+v", m)
	}
}
