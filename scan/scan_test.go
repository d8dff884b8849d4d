package scan

import (
	"errors"
	"math"
	"math/big"
	"math/rand/v2"
	"regexp"
	"slices"
	"strconv"
	"strings"
	"testing"

	"sortilege/api"
)

// signs: all of them, those that begin with another one first.
var signs = strings.Fields("-> <= >= != => .. [ ] ( ) : ; , + - * & | ! = < > ? '")

// name, num, label, sign and end: tokens of each kind.
func name(text string, pos int) Token  { return Token{Kind: 1, Text: text, Pos: pos} }
func num(text string, pos int) Token   { return Token{Kind: 2, Text: text, Pos: pos} }
func label(text string, pos int) Token { return Token{Kind: 3, Text: text, Pos: pos} }
func sign(text string, pos int) Token  { return Token{Kind: 4, Text: text, Pos: pos} }
func end(pos int) Token                { return Token{Kind: 0, Text: "", Pos: pos} }

// short: a text as it may be shown.
func short(s string) string {
	if len(s) > 80 {
		return strconv.Quote(s[:80]) + " and on, of " + strconv.Itoa(len(s)) + " bytes"
	}
	return strconv.Quote(s)
}

// reads: a text is read as just these tokens.
func reads(t *testing.T, s string, right ...Token) {
	t.Helper()
	if l, err := Tokens(s); err != nil || !slices.Equal(l, right) {
		t.Errorf("Tokens(%s): %v, %v; want %v", short(s), l, err, right)
	}
}

// isAt: an error at a place, as errors.Is and errors.As tell it.
func isAt(err error, errno api.Errno, pos int) bool {
	var at *api.At
	return errors.Is(err, errno) && errors.As(err, &at) && at.Pos == pos
}

// isPlain: an error without a place.
func isPlain(err error, errno api.Errno) bool {
	var at *api.At
	return errors.Is(err, errno) && !errors.As(err, &at)
}

// fails: a text can't be read, by this error at this place, and nothing else
// is told; New says the same.
func fails(t *testing.T, s string, errno api.Errno, pos int) {
	t.Helper()
	if l, err := Tokens(s); len(l) != 0 || !isAt(err, errno, pos) {
		t.Errorf("Tokens(%s): %v, %v; want %d at %d", short(s), l, err, errno, pos)
	}
	if r, err := New(s); r != nil || !isAt(err, errno, pos) {
		t.Errorf("New(%s): %v, %v; want %d at %d", short(s), r, err, errno, pos)
	}
}

// P4.1
func TestTheChaptersExample(t *testing.T) {
	reads(t, "x'=x+1", name("x", 0), sign("'", 1), sign("=", 2), name("x", 3), sign("+", 4), num("1", 5), end(6))
}

// P4.1
func TestTextsWithoutATokenButTheEnd(t *testing.T) {
	for _, s := range []string{
		"", " ", "\t", "\n", "\r", " \t\n\r \r\n",
		"//", "// x", "//\n", "// x\n", "\n//", "//\n//", "// a // b", "// a\n // b\n", "///", "////",
		"// \" .. # \x00 \x80 \xff", "// 99999999999999999999\n", "//\r", "//\rx", " //a\r\n\t//b",
		strings.Repeat(" ", 1000), strings.Repeat("//\n", 1000), "//" + strings.Repeat("#", 1000),
	} {
		reads(t, s, end(len(s)))
	}
}

// P4.1
func TestWhatStandsBehindAComment(t *testing.T) {
	reads(t, "// x\ny", name("y", 5), end(6))
	reads(t, "a// b\n// c\nd", name("a", 0), name("d", 11), end(12))
	reads(t, "a//\n1//", name("a", 0), num("1", 4), end(7))
	reads(t, "a//\rb", name("a", 0), end(5))
	reads(t, "\"//\"//\"", label("//", 0), end(7))
	fails(t, "// x\n#", api.ErrSyntax, 5)
	fails(t, "//\n/", api.ErrSyntax, 3)
	fails(t, "/ /", api.ErrSyntax, 0)
	fails(t, "/", api.ErrSyntax, 0)
	fails(t, "a/b//", api.ErrSyntax, 1)
	fails(t, "/* x */", api.ErrSyntax, 0)
}

// P4.1
func TestNames(t *testing.T) {
	for _, s := range []string{
		"a", "z", "A", "Z", "_", "__", "a1", "_1", "a_b", "Az09_", "x0123456789", "mdp", "endmodule", "true",
		"abcdefghijklmnopqrstuvwxyz", "ABCDEFGHIJKLMNOPQRSTUVWXYZ", strings.Repeat("n", 5000),
	} {
		reads(t, s, name(s, 0), end(len(s)))
		reads(t, " "+s+" ", name(s, 1), end(len(s)+2))
	}
	reads(t, "a b\tc\nd\re", name("a", 0), name("b", 2), name("c", 4), name("d", 6), name("e", 8), end(9))
}

// P4.1
func TestNumbers(t *testing.T) {
	zeros := strings.Repeat("0", 5000)
	for _, s := range []string{
		"0", "1", "9", "10", "0123456789", "00", "007", "01",
		"9223372036854775807", "9223372036854775806", "1000000000000000000", "4294967296",
		zeros, zeros + "1", zeros + "9223372036854775807", "09223372036854775807",
	} {
		reads(t, s, num(s, 0), end(len(s)))
		reads(t, "\n"+s+"\n", num(s, 1), end(len(s)+2))
	}
	// A number ends where its digits do.
	reads(t, "1a", num("1", 0), name("a", 1), end(2))
	reads(t, "12_3", num("12", 0), name("_3", 2), end(4))
	reads(t, "0x1F", num("0", 0), name("x1F", 1), end(4))
	reads(t, "1e5", num("1", 0), name("e5", 1), end(3))
	reads(t, "-1", sign("-", 0), num("1", 1), end(2))
	reads(t, "+1", sign("+", 0), num("1", 1), end(2))
	reads(t, "1 2", num("1", 0), num("2", 2), end(3))
	reads(t, "0..12", num("0", 0), sign("..", 1), num("12", 3), end(5))
	fails(t, "1.5", api.ErrSyntax, 1)
}

// P4.1
func TestNumbersThatAreTooGreat(t *testing.T) {
	for _, s := range []string{
		"9223372036854775808", "9223372036854775809", "9223372036854775810", "9999999999999999999",
		"10000000000000000000", "18446744073709551615", "18446744073709551616", "18446744073709551617",
		"36893488147419103233", strings.Repeat("9", 5000), "1" + strings.Repeat("0", 5000),
		"0009223372036854775808", strings.Repeat("0", 5000) + "9223372036854775808",
	} {
		fails(t, s, api.ErrOver, 0)
		fails(t, " "+s+" ", api.ErrOver, 1)
		fails(t, "-"+s, api.ErrOver, 1)
		fails(t, "x // y\n+"+s+"+1", api.ErrOver, 8)
		fails(t, s+"a", api.ErrOver, 0)
		reads(t, "\""+s[:19]+"\"", label(s[:19], 0), end(21))
		reads(t, "a"+s, name("a"+s, 0), end(1+len(s)))
		reads(t, "//"+s, end(2+len(s)))
	}
}

// P4.1: of several errors the one that is come to first.
func TestTheFirstOfSeveralErrors(t *testing.T) {
	fails(t, "9223372036854775808 #", api.ErrOver, 0)
	fails(t, "# 9223372036854775808", api.ErrSyntax, 0)
	fails(t, "1 \"\" 9223372036854775808", api.ErrSyntax, 2)
	fails(t, "1 9223372036854775808 \"", api.ErrOver, 2)
	fails(t, "a $ %", api.ErrSyntax, 2)
}

// P4.1
func TestLabels(t *testing.T) {
	for _, s := range []string{
		"a", " ", "~", "!", "#", "'", "/", "\\", "\\n", "go al", "//", "a//b", " a ", "12", "->", "..",
		"99999999999999999999", strings.Repeat("x", 31), strings.Repeat("x", 32), strings.Repeat(" ", 32),
	} {
		reads(t, "\""+s+"\"", label(s, 0), end(len(s)+2))
		reads(t, "a \""+s+"\" b", name("a", 0), label(s, 2), name("b", len(s)+5), end(len(s)+6))
		reads(t, "\""+s+"\"\""+s+"\"", label(s, 0), label(s, len(s)+2), end(2*len(s)+4))
	}
	for c := range 256 {
		s := "x\"" + string([]byte{byte(c)}) + "\""
		switch {
		case c == '"':
			fails(t, s, api.ErrSyntax, 1)
		case c < 32 || c > 126:
			fails(t, s, api.ErrSyntax, 1)
		default:
			reads(t, s, name("x", 0), label(s[2:3], 1), end(4))
		}
	}
}

// P4.1
func TestLabelsThatAreNone(t *testing.T) {
	for _, s := range []string{
		"\"\"", "\"\" ", "\"\"a\"", "\"", "\"a", "\" ", "\"abc def", "\"\n", "\"\n\"", "\"a\nb\"", "\"a\tb\"", "\"a\r\"", "\"a\x00\"",
		"\"\x1f\"", "\"\x7f\"", "\"\x80\"", "\"\xff\"", "\"ü\"", "\"a//\nb\"", "\"// x", "\"a' ;",
		"\"" + strings.Repeat("x", 33) + "\"", "\"" + strings.Repeat("x", 34) + "\"", "\"" + strings.Repeat("x", 5000) + "\"",
		"\"" + strings.Repeat("x", 32), "\"" + strings.Repeat("x", 33), "\"" + strings.Repeat("x", 5000),
		"\"" + strings.Repeat("x", 31) + "\n\"", "\"" + strings.Repeat("x", 32) + "\n\"",
	} {
		fails(t, s, api.ErrSyntax, 0)
		fails(t, "a1 "+s, api.ErrSyntax, 3)
		fails(t, "\"a\""+s, api.ErrSyntax, 3)
	}
	fails(t, "\"a\" \"b", api.ErrSyntax, 4)
	fails(t, "\"a\"b\"", api.ErrSyntax, 4)
}

// P4.1
func TestSigns(t *testing.T) {
	if len(signs) != 24 {
		t.Fatalf("%d signs", len(signs))
	}
	for _, s := range signs {
		n := len(s)
		reads(t, s, sign(s, 0), end(n))
		reads(t, " "+s+"\n", sign(s, 1), end(n+2))
		reads(t, "a"+s+"b", name("a", 0), sign(s, 1), name("b", n+1), end(n+2))
		reads(t, "1"+s+"2", num("1", 0), sign(s, 1), num("2", n+1), end(n+2))
		reads(t, "\"a\""+s+"\"b\"", label("a", 0), sign(s, 3), label("b", n+3), end(n+6))
		reads(t, s+"//"+s, sign(s, 0), end(2*n+2))
		for _, other := range signs {
			reads(t, s+" "+other, sign(s, 0), sign(other, n+1), end(n+1+len(other)))
		}
	}
}

// P4.1
func TestTheLongestSignThatStandsThere(t *testing.T) {
	reads(t, "-", sign("-", 0), end(1))
	reads(t, "- >", sign("-", 0), sign(">", 2), end(3))
	reads(t, "-->", sign("-", 0), sign("->", 1), end(3))
	reads(t, "->=", sign("->", 0), sign("=", 2), end(3))
	reads(t, "<=>", sign("<=", 0), sign(">", 2), end(3))
	reads(t, "<==>", sign("<=", 0), sign("=>", 2), end(4))
	reads(t, "<", sign("<", 0), end(1))
	reads(t, "<<=", sign("<", 0), sign("<=", 1), end(3))
	reads(t, "< =", sign("<", 0), sign("=", 2), end(3))
	reads(t, "=>=", sign("=>", 0), sign("=", 2), end(3))
	reads(t, "==>", sign("=", 0), sign("=>", 1), end(3))
	reads(t, "=<", sign("=", 0), sign("<", 1), end(2))
	reads(t, ">=>", sign(">=", 0), sign(">", 2), end(3))
	reads(t, "!==", sign("!=", 0), sign("=", 2), end(3))
	reads(t, "!!=", sign("!", 0), sign("!=", 1), end(3))
	reads(t, "=!", sign("=", 0), sign("!", 1), end(2))
	reads(t, ">-", sign(">", 0), sign("-", 1), end(2))
	reads(t, "&&||", sign("&", 0), sign("&", 1), sign("|", 2), sign("|", 3), end(4))
	reads(t, "..", sign("..", 0), end(2))
	reads(t, "....", sign("..", 0), sign("..", 2), end(4))
	reads(t, "..//.", sign("..", 0), end(5))
	fails(t, ".", api.ErrSyntax, 0)
	fails(t, "...", api.ErrSyntax, 2)
	fails(t, ". .", api.ErrSyntax, 0)
	fails(t, "a.b", api.ErrSyntax, 1)
	fails(t, "x.//.", api.ErrSyntax, 1)
}

// P4.1
func TestBytesAtWhichATokenBegins(t *testing.T) {
	begin := "abcdefghijklmnopqrstuvwxyzABCDEFGHIJKLMNOPQRSTUVWXYZ_0123456789[]():;,+-*&|!=<>?' \t\n\r"
	for c := range 256 {
		s := string([]byte{byte(c)})
		if strings.Contains(begin, s) {
			if _, err := Tokens(s); err != nil {
				t.Errorf("Tokens(%q): %v", s, err)
			}
			continue
		}
		fails(t, s, api.ErrSyntax, 0)
		fails(t, "a1 "+s, api.ErrSyntax, 3)
		fails(t, "a1"+s, api.ErrSyntax, 2)
		fails(t, "12"+s+"x", api.ErrSyntax, 2)
		fails(t, "// x\n=>"+s, api.ErrSyntax, 7)
		reads(t, "//"+s, end(3))
	}
	// Letters are those of one byte alone.
	fails(t, "aü", api.ErrSyntax, 1)
	fails(t, "٣", api.ErrSyntax, 0)
	fails(t, "a\u00a0b", api.ErrSyntax, 1)
}

// P4.1
func TestTextsAsLongAsMayBe(t *testing.T) {
	if api.MaxText != 65536 {
		t.Fatal("another limit")
	}
	name64 := strings.Repeat("a", 65536)
	reads(t, name64, name(name64, 0), end(65536))
	reads(t, strings.Repeat(" ", 65536), end(65536))
	reads(t, "//"+strings.Repeat("#", 65534), end(65536))
	reads(t, strings.Repeat("0", 65535)+"7", num(strings.Repeat("0", 65535)+"7", 0), end(65536))
	reads(t, strings.Repeat(" ", 65534)+"=>", sign("=>", 65534), end(65536))
	reads(t, strings.Repeat(" ", 65535)+"<", sign("<", 65535), end(65536))
	fails(t, strings.Repeat(" ", 65535)+".", api.ErrSyntax, 65535)
	fails(t, strings.Repeat(" ", 65535)+"\"", api.ErrSyntax, 65535)
	fails(t, strings.Repeat("9", 65536), api.ErrOver, 0)
	fails(t, string(make([]byte, 65536)), api.ErrSyntax, 0)
	if l, err := Tokens(strings.Repeat("+", 65536)); err != nil || len(l) != 65537 || l[65535] != sign("+", 65535) {
		t.Errorf("Tokens: %d of them, %v", len(l), err)
	}
}

// P4.1, P4.2: ErrLong has no place, and goes ahead of the others.
func TestTextsThatAreTooLong(t *testing.T) {
	for _, s := range []string{
		strings.Repeat("a", 65537), strings.Repeat(" ", 65537), string(make([]byte, 65537)),
		"#" + strings.Repeat(" ", 65536), strings.Repeat("9", 65537), strings.Repeat("\"", 100000), strings.Repeat("//\n", 1<<20),
	} {
		if l, err := Tokens(s); len(l) != 0 || !isPlain(err, api.ErrLong) {
			t.Errorf("Tokens of %d bytes: %d, %v", len(s), len(l), err)
		}
		if r, err := New(s); r != nil || !isPlain(err, api.ErrLong) {
			t.Errorf("New of %d bytes: %v, %v", len(s), r, err)
		}
	}
}

// R4, R6: lists that are told know nothing of each other.
func TestWhatWasToldMayChange(t *testing.T) {
	right := []Token{name("a", 0), sign("+", 1), num("1", 2), end(3)}
	one, _ := Tokens("a+1")
	other, _ := Tokens("a+1")
	for i := range one[:cap(one)] {
		one[:cap(one)][i] = label("z", 9)
	}
	if !slices.Equal(other, right) {
		t.Errorf("one list changes with another: %v", other)
	}
	reads(t, "a+1", right...)
}

// reader of a text that can be read.
func reader(t *testing.T, s string) *Reader {
	t.Helper()
	r, err := New(s)
	if r == nil || err != nil {
		t.Fatalf("New(%s): %v, %v", short(s), r, err)
	}
	return r
}

// isWhere: a reader is at this token.
func isWhere(t *testing.T, what string, r *Reader, right Token) {
	t.Helper()
	if got := r.Peek(); got != right {
		t.Errorf("%s: it is at %v; want %v", what, got, right)
	}
}

// P4.2
func TestPeekAndTake(t *testing.T) {
	for _, s := range []string{"", " // x", "x", "x [ 12 \"go\" -> y", "x'=x+1"} {
		right, _ := Tokens(s)
		r := reader(t, s)
		for _, token := range right {
			isWhere(t, "Peek", r, token)
			isWhere(t, "Peek again", r, token)
			if got := r.Take(); got != token {
				t.Errorf("Take: %v; want %v", got, token)
			}
		}
		for range 3 {
			isWhere(t, "at the end", r, end(len(s)))
			if got := r.Take(); got != end(len(s)) {
				t.Errorf("Take at the end: %v", got)
			}
		}
	}
}

// texts that are asked for: each is that of a token below, or of none.
var asked = append([]string{"", "x", "X", "xy", "12", "012", "a", "\"a\"", "\"", " ", "x ", ".", "->>", "é", "\x00"}, signs...)

// P4.2
func TestIsSkipAndWant(t *testing.T) {
	for _, s := range append([]string{"x", "xy", "_", "12", "012", "\"x\"", "\"12\"", "\"->\"", "\"=\"", "\"a\""}, signs...) {
		l, _ := Tokens("  " + s + " z")
		for _, text := range asked {
			what := strconv.Quote(s) + " asked for " + strconv.Quote(text)
			right, behind := false, l[0]
			if s == text && (l[0].Kind == 1 || l[0].Kind == 4) {
				right, behind = true, l[1]
			}
			r := reader(t, "  "+s+" z")
			if r.Is(text) != right {
				t.Errorf("%s: Is: %v", what, !right)
			}
			isWhere(t, what+": Is", r, l[0])
			if r.Skip(text) != right {
				t.Errorf("%s: Skip: %v", what, !right)
			}
			isWhere(t, what+": Skip", r, behind)
			r = reader(t, "  "+s+" z")
			if err := r.Want(text); right && err != nil || !right && !isAt(err, api.ErrSyntax, 2) {
				t.Errorf("%s: Want: %v", what, err)
			}
			isWhere(t, what+": Want", r, behind)
		}
	}
}

// P4.2
func TestIsOfALabelOrANumberWithTheSameText(t *testing.T) {
	for _, c := range []struct {
		s, text string
		is      bool
	}{
		{"x", "x", true}, {"->", "->", true}, {"'", "'", true}, {"x", "y", false}, {"xy", "x", false}, {"x", "xy", false},
		{"-", "->", false}, {"->", "-", false}, {"X", "x", false},
		{"\"x\"", "x", false}, {"\"x\"", "\"x\"", false}, {"\"->\"", "->", false}, {"\"=\"", "=", false},
		{"12", "12", false}, {"0", "0", false}, {"", "", false}, {"// x", "x", false},
	} {
		r := reader(t, c.s)
		if r.Is(c.text) != c.is {
			t.Errorf("%q: Is(%q): %v", c.s, c.text, !c.is)
		}
		if r.Skip(c.text) != c.is {
			t.Errorf("%q: Skip(%q): %v", c.s, c.text, !c.is)
		}
	}
}

// P4.2
func TestAtTheEnd(t *testing.T) {
	for _, s := range []string{"", "x", "x // y\n"} {
		r := reader(t, s)
		r.Take()
		for _, text := range asked {
			if r.Is(text) || r.Skip(text) || !isAt(r.Want(text), api.ErrSyntax, len(s)) {
				t.Errorf("%q: at the end it takes %q", s, text)
			}
		}
		if n, err := r.Name(); n != "" || !isAt(err, api.ErrSyntax, len(s)) {
			t.Errorf("%q: Name at the end: %q, %v", s, n, err)
		}
		if n, err := r.Number(); n != 0 || !isAt(err, api.ErrSyntax, len(s)) {
			t.Errorf("%q: Number at the end: %d, %v", s, n, err)
		}
		isWhere(t, "the end", r, end(len(s)))
	}
}

// P4.2
func TestName(t *testing.T) {
	for _, s := range []string{"x", "_", "a1", "mdp", "true", strings.Repeat("n", 5000)} {
		r := reader(t, " "+s+"+")
		if n, err := r.Name(); n != s || err != nil {
			t.Errorf("Name of %s: %q, %v", short(s), n, err)
		}
		isWhere(t, "behind a name", r, sign("+", 1+len(s)))
	}
	for _, s := range append([]string{"12", "\"x\"", "\"12\""}, signs...) {
		r := reader(t, "   "+s+" x")
		for range 2 {
			if n, err := r.Name(); n != "" || !isAt(err, api.ErrSyntax, 3) {
				t.Errorf("Name of %q: %q, %v", s, n, err)
			}
		}
		if r.Take(); !r.Is("x") {
			t.Errorf("Name of %q went on", s)
		}
	}
}

// P4.2
func TestNumber(t *testing.T) {
	zeros := strings.Repeat("0", 5000)
	for s, right := range map[string]int64{
		"0": 0, "1": 1, "12": 12, "007": 7, "010": 10, "0123456789": 123456789, "2147483648": 1 << 31, "4294967296": 1 << 32,
		"9223372036854775806": math.MaxInt64 - 1, "9223372036854775807": math.MaxInt64,
		zeros: 0, zeros + "42": 42, zeros + "9223372036854775807": math.MaxInt64,
	} {
		r := reader(t, " "+s+"+")
		if n, err := r.Number(); n != right || err != nil {
			t.Errorf("Number of %s: %d, %v; want %d", short(s), n, err, right)
		}
		isWhere(t, "behind a number", r, sign("+", 1+len(s)))
	}
	for _, s := range append([]string{"x", "_1", "\"x\"", "\"12\""}, signs...) {
		r := reader(t, "   "+s+" 5")
		for range 2 {
			if n, err := r.Number(); n != 0 || !isAt(err, api.ErrSyntax, 3) {
				t.Errorf("Number of %q: %d, %v", s, n, err)
			}
		}
		r.Take()
		if n, err := r.Number(); n != 5 || err != nil {
			t.Errorf("Number of %q went on", s)
		}
	}
}

// P4.2
func TestOneBehindTheOther(t *testing.T) {
	r := reader(t, "x : [0..12] \"go\"; // no more")
	x, err := r.Name()
	if x != "x" || err != nil || r.Want(":") != nil || r.Skip("]") || !r.Skip("[") {
		t.Errorf("x: %q, %v", x, err)
	}
	low, err := r.Number()
	if low != 0 || err != nil || r.Want("..") != nil {
		t.Errorf("low: %d, %v", low, err)
	}
	high, err := r.Number()
	if high != 12 || err != nil || r.Want("]") != nil || r.Take() != label("go", 12) || r.Want(";") != nil {
		t.Errorf("high: %d, %v", high, err)
	}
	isWhere(t, "in the end", r, end(28))
}

// P4.2, R6
func TestReadersKnowNothingOfEachOther(t *testing.T) {
	one, other := reader(t, "a b"), reader(t, "a b")
	one.Take()
	isWhere(t, "the one", one, name("b", 2))
	isWhere(t, "the other", other, name("a", 0))
}

// P4.2
func TestOfNil(t *testing.T) {
	var r *Reader
	for range 2 {
		if r.Peek() != end(0) || r.Take() != end(0) {
			t.Errorf("nil: Peek: %v, Take: %v", r.Peek(), r.Take())
		}
		for _, text := range asked {
			if r.Is(text) || r.Skip(text) || !isPlain(r.Want(text), api.ErrNil) {
				t.Errorf("nil: it takes %q", text)
			}
		}
		if n, err := r.Name(); n != "" || !isPlain(err, api.ErrNil) {
			t.Errorf("nil: Name: %q, %v", n, err)
		}
		if n, err := r.Number(); n != 0 || !isPlain(err, api.ErrNil) {
			t.Errorf("nil: Number: %d, %v", n, err)
		}
	}
}

// R1: a reader that New didn't make is at an end.
func TestOfAnUnmadeReader(t *testing.T) {
	r := &Reader{}
	if r.Peek() != end(0) || r.Take() != end(0) || r.Take() != end(0) || r.Is("") || r.Skip("x") {
		t.Errorf("unmade: %v", r.Peek())
	}
	if !isAt(r.Want("x"), api.ErrSyntax, 0) {
		t.Errorf("unmade: Want: %v", r.Want("x"))
	}
	if n, err := r.Name(); n != "" || !isAt(err, api.ErrSyntax, 0) {
		t.Errorf("unmade: Name: %q, %v", n, err)
	}
	if n, err := r.Number(); n != 0 || !isAt(err, api.ErrSyntax, 0) {
		t.Errorf("unmade: Number: %d, %v", n, err)
	}
}

// What the chapter's words say of blanks and tokens, as patterns: another way to
// read texts, beside which Tokens is held.
var (
	gapPattern   = regexp.MustCompile(`^(?:[ \t\n\r]|//[^\n]*(?:\n|$))*`)
	tokenPattern = regexp.MustCompile(`^(?:([A-Za-z_][A-Za-z0-9_]*)|([0-9]+)|"([ !#-~]{1,32})"|(->|<=|>=|!=|=>|\.\.|[\[\]():;,+\-*&|!=<>?']))`)
)

// tooGreat: do digits stand for a number beyond 2^63 - 1?
func tooGreat(digits string) bool {
	n, ok := new(big.Int).SetString(digits, 10)
	return ok && !n.IsInt64()
}

// byPatterns: a text's tokens, or an error and its place.
func byPatterns(s string) ([]Token, api.Errno, int) {
	var l []Token
	pos := len(gapPattern.FindString(s))
	for pos < len(s) {
		found := tokenPattern.FindStringSubmatch(s[pos:])
		if found == nil {
			return nil, api.ErrSyntax, pos
		}
		if tooGreat(found[2]) {
			return nil, api.ErrOver, pos
		}
		for kind, text := range found[1:] {
			if text != "" {
				l = append(l, Token{Kind: kind + 1, Text: text, Pos: pos})
			}
		}
		pos += len(found[0])
		pos += len(gapPattern.FindString(s[pos:]))
	}
	return append(l, end(len(s))), 0, 0
}

// follows: P4.3 of a text that is read, and P4.1 beside the patterns. It tells
// whether the text was read.
func follows(t *testing.T, s string) bool {
	t.Helper()
	l, err := Tokens(s)
	right, errno, pos := byPatterns(s)
	if errno != 0 {
		fails(t, s, errno, pos)
		return false
	}
	if err != nil || !slices.Equal(l, right) {
		t.Errorf("Tokens(%s): %v, %v; want %v", short(s), l, err, right)
		return false
	}
	behind := 0
	for _, token := range l {
		text := token.Text
		if token.Kind == 3 {
			text = "\"" + text + "\""
		}
		if token.Pos < behind || !strings.HasPrefix(s[token.Pos:], text) || (text == "") != (token.Kind == 0) {
			t.Errorf("Tokens(%s): %v behind %d", short(s), token, behind)
			return false
		}
		if gap := s[behind:token.Pos]; gapPattern.FindString(gap) != gap {
			t.Errorf("Tokens(%s): %q is passed over", short(s), gap)
		}
		behind = token.Pos + len(text)
	}
	if last := l[len(l)-1]; last != end(len(s)) {
		t.Errorf("Tokens(%s): %v is the last", short(s), last)
	}
	return true
}

// ofBothKinds: some texts were read, and some weren't.
func ofBothKinds(t *testing.T, read, all int) {
	t.Helper()
	if read < all/50 || read > all-all/50 {
		t.Errorf("%d of %d texts were read", read, all)
	}
}

// P4.1, P4.3
func TestAllShortTexts(t *testing.T) {
	texts := []string{""}
	read, from := 0, 0
	for range 4 {
		to := len(texts)
		for _, s := range texts[from:to] {
			for _, c := range "a_0 \n/\".-<=>!#" {
				texts = append(texts, s+string(c))
			}
		}
		from = to
	}
	for _, s := range texts {
		if follows(t, s) {
			read++
		}
	}
	ofBothKinds(t, read, len(texts))
}

// P4.1, P4.3
func TestTextsOfPieces(t *testing.T) {
	chance := rand.New(rand.NewPCG(4, 3))
	pieces := append([]string{
		" ", "\t", "\n", "\r", " ", "\n", "// x\n", "//\n", "// \" #\n", "x", "_", "a1", "Zz", "0", "12", "007",
		"9223372036854775807", "\"a\"", "\"go al\"", "\"->\"", "\"//\"", "\"" + strings.Repeat("y", 32) + "\"",
	}, signs...)
	wrong := []string{
		"9223372036854775808", "9300000000000000000", "10000000000000000000", ".", "/", "#", "\"", "\"\"", "\x00", "\xff", "ü",
		"\"" + strings.Repeat("y", 33) + "\"", "// x",
	}
	read, all := 0, 20000
	for range all {
		var b strings.Builder
		for range chance.IntN(30) {
			b.WriteString(pieces[chance.IntN(len(pieces))])
		}
		if chance.IntN(3) == 0 {
			b.WriteString(wrong[chance.IntN(len(wrong))])
			b.WriteString(pieces[chance.IntN(len(pieces))])
		}
		if follows(t, b.String()) {
			read++
		}
	}
	ofBothKinds(t, read, all)
}

// P4.1, P4.3, R1
func TestTextsOfAnyBytes(t *testing.T) {
	chance := rand.New(rand.NewPCG(41, 43))
	for range 20000 {
		s := make([]byte, chance.IntN(12))
		for i := range s {
			s[i] = byte(chance.IntN(256))
		}
		follows(t, string(s))
	}
}

// P4.3: a reader tells the tokens that Tokens does.
func TestAReaderGoesThroughAllTokens(t *testing.T) {
	s := "mdp module m x : [0..1]; [] x = 0 -> 3:(x' = 1) + true; endmodule label \"done\" = x>=1; // end"
	l, err := Tokens(s)
	if err != nil || !follows(t, s) {
		t.Fatal(err)
	}
	r := reader(t, s)
	var taken []Token
	for r.Peek().Kind != 0 {
		taken = append(taken, r.Take())
	}
	if taken = append(taken, r.Take()); !slices.Equal(taken, l) {
		t.Errorf("taken: %v", taken)
	}
}
