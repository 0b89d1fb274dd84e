package lex_test

import (
	"errors"
	"math"
	"slices"
	"strings"
	"testing"

	"whelk/api"
	"whelk/lex"
)

// Tokens, each at its place.
func open(at int) lex.Token              { return lex.Token{Kind: lex.Open, At: at} }
func shut(at int) lex.Token              { return lex.Token{Kind: lex.Close, At: at} }
func not(at int) lex.Token               { return lex.Token{Kind: lex.Not, At: at} }
func number(at int, i int64) lex.Token   { return lex.Token{Kind: api.Int, At: at, I: i} }
func symbol(at int, s string) lex.Token  { return lex.Token{Kind: api.Sym, At: at, S: s} }
func text(at int, s string) lex.Token    { return lex.Token{Kind: api.Str, At: at, S: s} }
func varOf(at int, s string) lex.Token   { return lex.Token{Kind: lex.Var, At: at, S: s} }
func globOf(at int, s string) lex.Token  { return lex.Token{Kind: lex.Glob, At: at, S: s} }
func tokens(l ...lex.Token) []lex.Token  { return l }
func times(s string, n int) string       { return strings.Repeat(s, n) }
func quoted(s string) string             { return `"` + s + `"` }
func among(sign byte, signs string) bool { return strings.IndexByte(signs, sign) >= 0 }

// holds asks that Scan tells these tokens of s.
func holds(t *testing.T, s string, want []lex.Token) {
	t.Helper()
	l, err := lex.Scan([]byte(s))
	if err != nil || !slices.Equal(l, want) {
		t.Errorf("P401: Scan(%.80q): %#v, %v, not %#v", s, l, err, want)
	}
}

// refuses asks that Scan tells this error of s, as a Fault, and nothing beside it.
func refuses(t *testing.T, s string, at int, want api.Errno) {
	t.Helper()
	l, err := lex.Scan([]byte(s))
	var f *api.Fault
	var n api.Errno
	if len(l) != 0 || !errors.As(err, &f) || !errors.As(err, &n) {
		t.Errorf("P401: Scan(%.80q): %#v, %v, not char %d: %v", s, l, err, at, want)
		return
	}
	if *f != (api.Fault{Part: "char", At: at, Err: want}) || n != want || !errors.Is(err, want) {
		t.Errorf("P401: Scan(%.80q): %v, not char %d: %v", s, err, at, want)
	}
}

func TestKinds(t *testing.T) {
	if [...]int{lex.Open, lex.Close, lex.Var, lex.Glob, lex.Not} != [...]int{4, 5, 6, 7, 8} {
		t.Error("P401: the numbers of the kinds")
	}
}

func TestNothing(t *testing.T) {
	for _, s := range []string{"", " ", "\t\n\r ", ";", ";;", "; (a \"b", ";a\n", ";a\n;b", " ;a\n\t;b\n ", ";\x00\x80\xff?", ";a\rb", times(" ", api.MaxText), ";" + times("x", api.MaxText-1)} {
		holds(t, s, nil)
	}
	if l, err := lex.Scan(nil); len(l) != 0 || err != nil {
		t.Errorf("P401: Scan of no list: %#v, %v", l, err)
	}
}

func TestTokens(t *testing.T) {
	for _, c := range []struct {
		s string
		l []lex.Token
	}{
		{"()", tokens(open(0), shut(1))},
		{"))((", tokens(shut(0), shut(1), open(2), open(3))},
		{" ( a )\n", tokens(open(1), symbol(3, "a"), shut(5))},
		{"(assert (p 1 -2 \"x\"))", tokens(open(0), symbol(1, "assert"), open(8), symbol(9, "p"), number(11, 1), number(13, -2), text(16, "x"), shut(19), shut(20))},
		{"~~a ~", tokens(not(0), not(1), symbol(2, "a"), not(4))},
		{"a~b", tokens(symbol(0, "a"), not(1), symbol(2, "b"))},
		{"a;b\nc", tokens(symbol(0, "a"), symbol(4, "c"))},
		{"a;b\n;c\nd;", tokens(symbol(0, "a"), symbol(7, "d"))},
		{"a;b\r\nc", tokens(symbol(0, "a"), symbol(5, "c"))},
		{"a\tb\nc\rd e", tokens(symbol(0, "a"), symbol(2, "b"), symbol(4, "c"), symbol(6, "d"), symbol(8, "e"))},
		{"a(b)c", tokens(symbol(0, "a"), open(1), symbol(2, "b"), shut(3), symbol(4, "c"))},
		{"1\"2\"3", tokens(number(0, 1), text(1, "2"), number(4, 3))},
		{"a?b?*c*d", tokens(symbol(0, "a"), varOf(1, "b"), globOf(3, "c"), symbol(7, "d"))},
	} {
		holds(t, c.s, c.l)
	}
}

func TestNumbers(t *testing.T) {
	for _, c := range []struct {
		s string
		i int64
	}{
		{"0", 0}, {"7", 7}, {"+7", 7}, {"-7", -7}, {"-0", 0}, {"007", 7}, {"+00", 0},
		{"9223372036854775807", math.MaxInt64}, {"-9223372036854775808", math.MinInt64},
		{times("0", 60), 0}, {"-" + times("0", 60) + "12", -12},
	} {
		holds(t, c.s, tokens(number(0, c.i)))
		holds(t, "("+c.s+")", tokens(open(0), number(1, c.i), shut(1+len(c.s))))
	}
	for _, s := range []string{"9223372036854775808", "-9223372036854775809", "+9223372036854775808", times("9", 40), times("9", 41), "-" + times("1", 5000)} {
		refuses(t, s, 0, api.ErrRange)
		refuses(t, "a\n"+s+" ?", 2, api.ErrRange)
	}
}

func TestSymbols(t *testing.T) {
	for _, s := range []string{
		"a", "+", "-", "*", "/", "=", "<=", "=>", "<-", "&", "|", ":", "a:b", "a\\b", "\\", "'", "a.b", "{}", "[x]", "!", "@", "#", "$", "%", "^", "`", ",", "_", "TRUE",
		"1+", "1-1", "+-1", "--1", "+a", "1x", "-1x", "1.5", "0x10", "1_000", "*g*",
		times("x", 39), times("x", 40), "+" + times("9", 38) + "x",
	} {
		holds(t, s, tokens(symbol(0, s)))
		holds(t, "~"+s+"~", tokens(not(0), symbol(1, s), not(1+len(s))))
	}
	for _, s := range []string{times("x", 41), times("9", 40) + "x", times("x", 5000), times("x", api.MaxText)} {
		refuses(t, s, 0, api.ErrLong)
	}
	refuses(t, "a ("+times("x", 41)+"\x00", 3, api.ErrLong)
	refuses(t, times("x", 40)+"\x00", 40, api.ErrForm)
}

func TestStrings(t *testing.T) {
	for _, c := range []struct{ s, want string }{
		{``, ``}, {`a`, `a`}, {`a b`, `a b`}, {`;a`, `;a`}, {`(~?`, `(~?`}, {`12`, `12`},
		{`\"`, `"`}, {`\\`, `\`}, {`\\\"`, `\"`}, {`\\\\`, `\\`}, {`a\"b\"c`, `a"b"c`},
		{`\n\t\x`, `ntx`}, {"\\\n", "\n"}, {"\\\x00\\\xff", "\x00\xff"}, {"a\nb\r\t", "a\nb\r\t"}, {"\u00e9\U0001f41a\xc3", "\u00e9\U0001f41a\xc3"},
		{times("y", 999), times("y", 999)}, {times("y", 1000), times("y", 1000)}, {times(`\"`, 1000), times(`"`, 1000)}, {times("\u00e9", 500), times("\u00e9", 500)},
	} {
		holds(t, quoted(c.s), tokens(text(0, c.want)))
		holds(t, "a"+quoted(c.s)+quoted(c.s)+"b", tokens(symbol(0, "a"), text(1, c.want), text(3+len(c.s), c.want), symbol(5+2*len(c.s), "b")))
	}
	for _, s := range []string{times("y", 1001), times(`\\`, 1001), times("y", 1000) + `\"`, times("\u00e9", 501), times("y", api.MaxText-2)} {
		refuses(t, quoted(s), 0, api.ErrLong)
	}
	refuses(t, " \t"+quoted(times("y", 1001))+" ?", 2, api.ErrLong)
	for _, s := range []string{`"`, `"a`, `"\`, `"a\`, `"\"`, `"a\"`, `"\\\"`, `"` + times("y", 1000), `"` + times("y", 1001), `"` + times(`\"`, 1001), `"` + times("y", api.MaxText-1), "\"a\n;(b"} {
		refuses(t, s, 0, api.ErrShort)
	}
	refuses(t, `"a""b`, 3, api.ErrShort)
	refuses(t, `""" "`+`"`, 5, api.ErrShort)
}

func TestVariables(t *testing.T) {
	for _, s := range []string{"x", "X", "x1", "x-", "x_", "a-b_c9", "z", "Z", times("x", 39), times("x", 40), "x" + times("-", 39)} {
		holds(t, "?"+s, tokens(varOf(0, s)))
		holds(t, "?*"+s+"*", tokens(globOf(0, s)))
		holds(t, "(?"+s+")", tokens(open(0), varOf(1, s), shut(2+len(s))))
		holds(t, "?*"+s+"*?*"+s+"*", tokens(globOf(0, s), globOf(3+len(s), s)))
	}
	holds(t, "?x*y", tokens(varOf(0, "x"), symbol(2, "*y")))
	holds(t, "?x*", tokens(varOf(0, "x"), symbol(2, "*")))
	holds(t, "?*x**", tokens(globOf(0, "x"), symbol(4, "*")))
	holds(t, "?*x*y", tokens(globOf(0, "x"), symbol(4, "y")))
	holds(t, "?x.y+1", tokens(varOf(0, "x"), symbol(2, ".y+1")))
	holds(t, "?x+1", tokens(varOf(0, "x"), number(2, 1)))
	for _, s := range []string{
		"?", "? x", "??x", "?9", "?9x", "?-x", "?_x", "?(x", "?\"x\"", "?;x", "?~x", "?=x", "?\u00e9", "?\x00", "?\n",
		"?*", "?**", "?***", "?*9*", "?*-x*", "?*_*", "?*g", "?*g ", "?*g *", "?*g(", "?*g.*", "?*g?*", "?*\u00e9*", "?* g*",
		"?" + times("9", 40), "?*" + times("9", 40) + "*", "?*" + times("x", 40), "?*" + times("x", 40) + ".*",
	} {
		refuses(t, s, 0, api.ErrForm)
		refuses(t, "a\r("+s, 3, api.ErrForm)
	}
	for _, s := range []string{times("x", 41), "9" + times("x", 40), times("-", 41), times("x", 5000), times("x", 41) + "?"} {
		refuses(t, "?"+s, 0, api.ErrLong)
		refuses(t, "?*"+s+"*", 0, api.ErrLong)
		refuses(t, "?*"+s, 0, api.ErrLong)
		refuses(t, "; ?\n ?*"+s+".", 5, api.ErrLong)
	}
}

// TestBytes: what each of all bytes is, by itself, in a word, in a name, in a string and in a comment.
func TestBytes(t *testing.T) {
	for i := range 256 {
		b := byte(i)
		s := string([]byte{b})
		letter := 'a' <= b && b <= 'z' || 'A' <= b && b <= 'Z'
		digit := '0' <= b && b <= '9'
		switch {
		case among(b, " \t\n\r"):
			holds(t, s, nil)
			holds(t, "a"+s+"b", tokens(symbol(0, "a"), symbol(2, "b")))
		case b == ';':
			holds(t, s, nil)
			holds(t, "a"+s+"b", tokens(symbol(0, "a")))
		case among(b, "()~"):
			kind := map[byte]int{'(': lex.Open, ')': lex.Close, '~': lex.Not}[b]
			holds(t, s, tokens(lex.Token{Kind: kind}))
			holds(t, "a"+s+"b", tokens(symbol(0, "a"), lex.Token{Kind: kind, At: 1}, symbol(2, "b")))
		case b == '"':
			refuses(t, s, 0, api.ErrShort)
			refuses(t, "a"+s+"b", 1, api.ErrShort)
		case b == '?':
			refuses(t, s, 0, api.ErrForm)
			holds(t, "a"+s+"b", tokens(symbol(0, "a"), varOf(1, "b")))
		case b < 33 || b > 126:
			refuses(t, s, 0, api.ErrForm)
			refuses(t, "a"+s+"b", 1, api.ErrForm)
			refuses(t, "?a"+s+"b", 2, api.ErrForm)
		case digit:
			holds(t, s, tokens(number(0, int64(b-'0'))))
			holds(t, "a"+s+"b", tokens(symbol(0, "a"+s+"b")))
		default:
			holds(t, s, tokens(symbol(0, s)))
			holds(t, "a"+s+"b", tokens(symbol(0, "a"+s+"b")))
		}
		inName(t, s, letter, letter || digit || b == '-' || b == '_')
		holds(t, ";"+s+"\na", tokens(symbol(2+len(s), "a")))
		if b != '"' && b != '\\' {
			holds(t, quoted("a"+s+"b"), tokens(text(0, "a"+s+"b")))
		}
		holds(t, quoted("a\\"+s+"b"), tokens(text(0, "a"+s+"b")))
	}
}

// inName: a sign behind ?, as the first one of a name and behind it; the star is told by TestVariables.
func inName(t *testing.T, s string, first, later bool) {
	t.Helper()
	if first {
		holds(t, "?"+s, tokens(varOf(0, s)))
		holds(t, "?*"+s+"*", tokens(globOf(0, s)))
	} else {
		refuses(t, "?"+s+"b", 0, api.ErrForm)
		refuses(t, "?*"+s+"b*", 0, api.ErrForm)
	}
	if later {
		holds(t, "?a"+s+"b", tokens(varOf(0, "a"+s+"b")))
		holds(t, "?*a"+s+"*", tokens(globOf(0, "a"+s)))
	} else if s != "*" {
		refuses(t, "?*a"+s+"b*", 0, api.ErrForm)
	}
}

// TestLongText: a text at the limit is told, one byte more is refused, whatever is in it.
func TestLongText(t *testing.T) {
	end := times(" ", api.MaxText-1)
	holds(t, end+"a", tokens(symbol(api.MaxText-1, "a")))
	refuses(t, end+"\x00", api.MaxText-1, api.ErrForm)
	l, err := lex.Scan([]byte(times("(", api.MaxText)))
	if err != nil || len(l) != api.MaxText || l[api.MaxText-1] != open(api.MaxText-1) {
		t.Errorf("P401: Scan of %d bytes: %d tokens, %v", api.MaxText, len(l), err)
	}
	for _, s := range []string{times(" ", api.MaxText+1), " \x00" + end, " \"" + end, " ?9" + end, end + " a\x00", times("(", 10*api.MaxText)} {
		refuses(t, s, 0, api.ErrLong)
	}
}

// TestFirstFault: of several faults the one that comes first in the text is told, of whatever kind.
func TestFirstFault(t *testing.T) {
	bad := []struct {
		s   string
		err api.Errno
	}{
		{times("x", 41), api.ErrLong}, {"?" + times("x", 41), api.ErrLong}, {quoted(times("y", 1001)), api.ErrLong},
		{"9223372036854775808", api.ErrRange}, {"\x00", api.ErrForm}, {"?", api.ErrForm}, {"?*g", api.ErrForm},
	}
	for _, a := range bad {
		refuses(t, "a "+a.s+" \"b", 2, a.err)
		for _, b := range bad {
			refuses(t, "(a "+a.s+" "+b.s, 3, a.err)
			refuses(t, ";"+b.s+"\n\""+"\" "+a.s+" "+b.s, len(b.s)+5, a.err)
		}
	}
}

func TestText(t *testing.T) {
	for _, c := range []struct {
		token lex.Token
		want  string
	}{
		{open(0), "("}, {shut(5), ")"}, {not(9), "~"},
		{number(0, 0), "0"}, {number(1, 7), "7"}, {number(2, -7), "-7"}, {number(3, math.MinInt64), "-9223372036854775808"}, {number(4, math.MaxInt64), "9223372036854775807"},
		{symbol(0, "a-b"), "a-b"}, {symbol(0, "+"), "+"}, {symbol(0, "a\\b"), "a\\b"},
		{text(0, ""), `""`}, {text(3, "7"), `"7"`}, {text(0, `a"b\`), `"a\"b\\"`}, {text(0, "a\n\xff"), "\"a\n\xff\""},
		{varOf(7, "x"), "?x"}, {varOf(0, "a-1"), "?a-1"}, {globOf(7, "x"), "?*x*"}, {globOf(0, "a-1"), "?*a-1*"},
	} {
		if s := lex.Text(c.token); s != c.want {
			t.Errorf("P401: Text(%#v): %q, not %q", c.token, s, c.want)
		}
	}
}

// TestShortTexts: all short texts over a few signs are answered (P1), by tokens that stand apart and are the same again when they are written and read.
func TestShortTexts(t *testing.T) {
	signs := "(~\";?*\\-1a \n\x80"
	texts := []string{""}
	for i := 0; i < len(texts); i++ {
		s := texts[i]
		thereAndBack(t, s)
		if len(s) == 5 {
			continue
		}
		for k := range len(signs) {
			texts = append(texts, s+signs[k:k+1])
		}
	}
}

// thereAndBack asks what holds of each text, be it refused or not.
func thereAndBack(t *testing.T, s string) {
	t.Helper()
	l, err := lex.Scan([]byte(s))
	var f *api.Fault
	if err != nil {
		if len(l) != 0 || !errors.As(err, &f) || f.Part != "char" || f.At < 0 || f.At >= len(s) {
			t.Fatalf("P401: Scan(%q): %#v, %v", s, l, err)
		}
		return
	}
	written, last := "", -1
	for i, token := range l {
		if token.At <= last || token.At >= len(s) {
			t.Fatalf("P401: Scan(%q): token %d is at %d, behind %d", s, i, token.At, last)
		}
		last = token.At
		l[i].At = len(written)
		written += lex.Text(token) + " "
	}
	again, err := lex.Scan([]byte(written))
	if err != nil || !slices.Equal(l, again) {
		t.Fatalf("P401: %q is written %q, and read as %#v, %v", s, written, again, err)
	}
}

// TestScanTakesNothing: what is handed in is not changed, with its spare room, and not kept (P2); each answer is its own.
func TestScanTakesNothing(t *testing.T) {
	whole := `(ab ?cd "e\"f" ?*gh* 12) spare room`
	room := []byte(whole)
	b := room[:strings.Index(whole, " spare")]
	first, err := lex.Scan(b)
	if err != nil || string(room) != whole {
		t.Fatalf("P401: Scan changed its text: %q, %v", room, err)
	}
	was := slices.Clone(first)
	second, _ := lex.Scan(b)
	for i := range room {
		room[i] = '~'
	}
	second = second[:cap(second)]
	clear(second)
	if !slices.Equal(first, was) {
		t.Errorf("P401: Scan kept its text: %#v, not %#v", first, was)
	}
}

// TestScanAgain: the same text is answered the same, a refused one ahead of it or not (P3, P5).
func TestScanAgain(t *testing.T) {
	for _, s := range []string{"(a", "\"a", "?", "1 2"} {
		lex.Scan([]byte(s))
		holds(t, "a ?b", tokens(symbol(0, "a"), varOf(2, "b")))
	}
}

// TestAnyToken: Text answers whatever token it is handed (P1, P8).
func TestAnyToken(t *testing.T) {
	for _, kind := range []int{math.MinInt, -1, 0, api.Int, api.Sym, api.Str, lex.Open, lex.Close, lex.Var, lex.Glob, lex.Not, 9, math.MaxInt} {
		for _, i := range []int64{math.MinInt64, 0, math.MaxInt64} {
			for _, s := range []string{"", "x", "\xff\x00\"\\", times("9", 2000)} {
				lex.Text(lex.Token{Kind: kind, At: kind, I: i, S: s})
			}
		}
	}
}
