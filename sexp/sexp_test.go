package sexp_test

import (
	"errors"
	"fmt"
	"math"
	"reflect"
	"runtime/debug"
	"slices"
	"strings"
	"testing"

	"whelk/api"
	"whelk/lex"
	"whelk/sexp"
)

// Nodes, each at its place.
func number(at int, i int64) sexp.Node  { return sexp.Node{Kind: api.Int, At: at, I: i} }
func symbol(at int, s string) sexp.Node { return sexp.Node{Kind: api.Sym, At: at, S: s} }
func text(at int, s string) sexp.Node   { return sexp.Node{Kind: api.Str, At: at, S: s} }
func varOf(at int, s string) sexp.Node  { return sexp.Node{Kind: lex.Var, At: at, S: s} }
func globOf(at int, s string) sexp.Node { return sexp.Node{Kind: lex.Glob, At: at, S: s} }
func nodes(l ...sexp.Node) []sexp.Node  { return l }
func times(s string, n int) string      { return strings.Repeat(s, n) }
func list(at int, l ...sexp.Node) sexp.Node {
	return sexp.Node{Kind: sexp.List, At: at, Kids: l}
}
func not(at int, n sexp.Node) sexp.Node {
	return sexp.Node{Kind: lex.Not, At: at, Kids: nodes(n)}
}

// equal tells whether two lists of nodes are the same in all fields, At too; no list and an empty one are the same (P2).
func equal(a, b []sexp.Node) bool {
	return slices.EqualFunc(a, b, func(x, y sexp.Node) bool {
		return x.Kind == y.Kind && x.At == y.At && x.I == y.I && x.S == y.S && equal(x.Kids, y.Kids)
	})
}

// holds asks that Read tells these nodes of s.
func holds(t *testing.T, s string, want []sexp.Node) {
	t.Helper()
	l, err := sexp.Read([]byte(s))
	if err != nil || !equal(l, want) {
		t.Errorf("P501: Read(%.80q): %+v, %v, not %+v", s, l, err, want)
	}
}

// read tells the nodes of a text that is good.
func read(t *testing.T, s string) []sexp.Node {
	t.Helper()
	l, err := sexp.Read([]byte(s))
	if err != nil {
		t.Fatalf("P501: Read(%.80q): %v", s, err)
	}
	return l
}

// refuses asks that Read tells this error of s, as a Fault, and nothing beside it.
func refuses(t *testing.T, s string, at int, want api.Errno) {
	t.Helper()
	l, err := sexp.Read([]byte(s))
	var f *api.Fault
	var n api.Errno
	if len(l) != 0 || !errors.As(err, &f) || !errors.As(err, &n) {
		t.Errorf("P501: Read(%.80q): %d nodes, %v, not char %d: %v", s, len(l), err, at, want)
		return
	}
	if *f != (api.Fault{Part: "char", At: at, Err: want}) || n != want || !errors.Is(err, want) {
		t.Errorf("P501: Read(%.80q): %v, not char %d: %v", s, err, at, want)
	}
}

func TestNothing(t *testing.T) {
	for _, s := range []string{"", " \t\r\n", ";", "; (a ~ )\n"} {
		holds(t, s, nil)
	}
	if l, err := sexp.Read(nil); len(l) != 0 || err != nil {
		t.Errorf("P501: Read of no list: %+v, %v", l, err)
	}
}

func TestRead(t *testing.T) {
	for _, c := range []struct {
		s string
		l []sexp.Node
	}{
		{"a", nodes(symbol(0, "a"))},
		{"-7 a \"s\" ?x ?*g*", nodes(number(0, -7), symbol(3, "a"), text(5, "s"), varOf(9, "x"), globOf(12, "g"))},
		{"()", nodes(list(0))},
		{" ( ) ;)\n()", nodes(list(1), list(8))},
		{"(())()", nodes(list(0, list(1)), list(4))},
		{"(a (b 1) \"s\")c", nodes(list(0, symbol(1, "a"), list(3, symbol(4, "b"), number(6, 1)), text(9, "s")), symbol(13, "c"))},
		{"((((a))))", nodes(list(0, list(1, list(2, list(3, symbol(4, "a"))))))},
		{"(~?x~?y)", nodes(list(0, not(1, varOf(2, "x")), not(4, varOf(5, "y"))))},
		{"~a", nodes(not(0, symbol(1, "a")))},
		{" ~ ;x\n 5", nodes(not(1, number(7, 5)))},
		{"~\"s\"~?x ~?*g* ~-1", nodes(not(0, text(1, "s")), not(4, varOf(5, "x")), not(8, globOf(9, "g")), not(14, number(15, -1)))},
		{"~a(b)", nodes(not(0, symbol(1, "a")), list(2, symbol(3, "b")))},
		{"(~a)(~b c)", nodes(list(0, not(1, symbol(2, "a"))), list(4, not(5, symbol(6, "b")), symbol(8, "c")))},
		{"\"(\" \")\" \"~\"", nodes(text(0, "("), text(4, ")"), text(8, "~"))},
	} {
		holds(t, c.s, c.l)
	}
	if sexp.List != 0 {
		t.Error("P501: the number of List")
	}
}

func TestForm(t *testing.T) {
	for _, c := range []struct {
		s  string
		at int
	}{
		{")", 0}, {" )", 1}, {"a )", 2}, {"(a))", 3}, {"(a) ) (", 4}, {"())", 2}, {")(", 0}, {"))", 0},
		{"~)", 0}, {"(~)", 1}, {"(a ~ )", 3}, {"~()", 0}, {"~(a)", 0}, {"(a ~(b", 3}, {"~(", 0}, {"~~a", 0}, {"~~", 0}, {"a ~ ~", 2}, {"~~~a", 0}, {"~a~~b", 2},
	} {
		refuses(t, c.s, c.at, api.ErrForm)
	}
}

func TestShort(t *testing.T) {
	for _, c := range []struct {
		s  string
		at int
	}{
		{"(", 0}, {"(a", 0}, {"((", 1}, {"(a (b", 3}, {"(a (b)", 0}, {"(a (b) (c", 7}, {" (() (() ", 5}, {"(a) (", 4}, {"(;)", 0},
		{"~", 0}, {"a ~", 2}, {"(a ~", 3}, {"((~ ;x", 2}, {"~a ~", 3}, {"(~a", 0},
	} {
		refuses(t, c.s, c.at, api.ErrShort)
	}
}

// TestScanFirst: what lex tells of a text goes ahead of whatever is wrong with its lists.
func TestScanFirst(t *testing.T) {
	refuses(t, ") \"b", 2, api.ErrShort)
	refuses(t, "(~) ?", 4, api.ErrForm)
	refuses(t, times("(", 40)+" 9223372036854775808", 41, api.ErrRange)
	refuses(t, times(")", 5000)+times("x", 41), 5000, api.ErrLong)
	refuses(t, times(")", api.MaxText+1), 0, api.ErrLong)
	refuses(t, times(")", api.MaxText), 0, api.ErrForm)
	_, want := lex.Scan([]byte("a (\x00"))
	if _, err := sexp.Read([]byte("a (\x00")); !reflect.DeepEqual(err, want) {
		t.Errorf("P501: %v, not lex's %v", err, want)
	}
}

// TestDepth: lists at the limit and one more; a Not is no list in others.
func TestDepth(t *testing.T) {
	deep, end := times("(", api.MaxDepth), times(")", api.MaxDepth)
	for _, s := range []string{deep + end, deep + "a" + end, deep + "~a" + end, deep + end + deep + end, "(" + times("()", 100) + ")"} {
		read(t, s)
	}
	for _, s := range []string{deep + "(", deep + "()" + end, deep + "(" + end + ")", deep + "((((", deep + "()~"} {
		refuses(t, s, api.MaxDepth, api.ErrLong)
	}
	refuses(t, deep+") (", api.MaxDepth+2, api.ErrShort)
	refuses(t, deep+")", api.MaxDepth-2, api.ErrShort)
	refuses(t, deep+") ((", api.MaxDepth+3, api.ErrLong)
	refuses(t, deep+"~(", api.MaxDepth, api.ErrForm)
	refuses(t, deep+"~", api.MaxDepth, api.ErrShort)
	refuses(t, deep+"a~a", api.MaxDepth-1, api.ErrShort)
	refuses(t, deep+end+")", 2*api.MaxDepth, api.ErrForm)
}

// TestNodes: nodes at the limit and one more, whatever the last ones are.
func TestNodes(t *testing.T) {
	const most = api.MaxNodes
	for _, s := range []string{times("a ", most), times("()", most), times("~a ", most/2), "(" + times("a ", most-1) + ")", times("a ", most-2) + "(a)", times("a ", most-2) + "~a", times("a ", most-1) + "() ; a"} {
		count := 0
		for _, n := range read(t, s) {
			count += sexp.Count(n)
		}
		if count != most {
			t.Errorf("P501: %.20q: %d nodes", s, count)
		}
	}
	full, end := times("a ", most), 2*most
	for _, s := range []string{"a", "1", "\"s\"", "?x", "?*g*", "(", "()", "~", "~a", "~)", "~(", "~~", "a)", "(()"} {
		refuses(t, full+s, end, api.ErrLong)
	}
	refuses(t, full+")", end, api.ErrForm)
	refuses(t, full+")a", end, api.ErrForm)
	for _, c := range []struct {
		s   string
		at  int
		err api.Errno
	}{
		{"~a", end - 1, api.ErrLong}, {"~ ?x", end, api.ErrLong}, {"~", end - 2, api.ErrShort}, {"~)", end - 2, api.ErrForm}, {"~(", end - 2, api.ErrForm}, {"~~", end - 2, api.ErrForm},
		{"(a)", end - 1, api.ErrLong}, {"((", end - 1, api.ErrLong}, {"(~", end - 1, api.ErrLong}, {"()a", end, api.ErrLong}, {"())", end, api.ErrForm}, {"(", end - 2, api.ErrShort},
	} {
		refuses(t, times("a ", most-1)+c.s, c.at, c.err)
	}
	refuses(t, "("+times("a ", most-1)+"b)", 2*most-1, api.ErrLong)
	refuses(t, "("+times("a ", most-1)+"))", 2*most, api.ErrForm)
	refuses(t, "("+times("a ", most-1), 0, api.ErrShort)
	refuses(t, times("(", api.MaxDepth+1)+times("a ", most), api.MaxDepth, api.ErrLong)
}

// TestFirstFault: of several faults the one whose token comes first is told; what is wrong at the end comes last.
func TestFirstFault(t *testing.T) {
	bad := []struct {
		s   string
		err api.Errno
	}{
		{") ", api.ErrForm}, {"~) ", api.ErrForm}, {"~( ", api.ErrForm}, {"~~a ", api.ErrForm},
	}
	for _, a := range bad {
		for _, b := range bad {
			refuses(t, "a "+a.s+b.s+"(~", 2, a.err)
		}
		refuses(t, "a "+a.s+times("(", api.MaxDepth+1)+"~", 2, a.err)
		refuses(t, times("(", api.MaxDepth+1)+a.s, api.MaxDepth, api.ErrLong)
	}
}

// TestShortTexts: all short rows of tokens are answered as one who looks at each token and its neighbour alone would.
func TestShortTexts(t *testing.T) {
	rows := []string{""}
	for i := 0; i < len(rows); i++ {
		s := rows[i]
		if want := wrong(s); want != "" {
			l, err := sexp.Read([]byte(s))
			if got := sexp.Told(err); got != want || len(l) != 0 {
				t.Fatalf("P501: Read(%q): %q, not %q", s, got, want)
			}
		} else {
			thereAndBack(t, s)
		}
		if len(s) == 8 {
			continue
		}
		for _, sign := range []string{"(", ")", "~", "1"} {
			// Two numbers would be one if they stood beside each other.
			if sign != "1" || !strings.HasSuffix(s, "1") {
				rows = append(rows, s+sign)
			}
		}
	}
}

// wrong tells the error of a text over `( ) ~ 1`, if it has one.
func wrong(s string) string {
	var open []int
	for i := range len(s) {
		switch {
		case s[i] == '(':
			open = append(open, i)
		case s[i] == ')' && len(open) == 0:
			return fmt.Sprintf("char %d: form", i)
		case s[i] == ')':
			open = open[:len(open)-1]
		case s[i] == '~' && i+1 == len(s):
			return fmt.Sprintf("char %d: short", i)
		case s[i] == '~' && s[i+1] != '1':
			return fmt.Sprintf("char %d: form", i)
		}
	}
	if len(open) > 0 {
		return fmt.Sprintf("char %d: short", open[len(open)-1])
	}
	return ""
}

// thereAndBack asks what holds of each text that is read: it is written with the same signs, has as many nodes as tokens but Close, and is the same when it is read again.
func thereAndBack(t *testing.T, s string) {
	t.Helper()
	l, err := sexp.Read([]byte(s))
	if err != nil {
		t.Fatalf("P501: Read(%q): %v", s, err)
	}
	written, count := sexp.Lines(l), 0
	for _, n := range l {
		count += sexp.Count(n)
	}
	if signs := strings.NewReplacer(" ", "", "\n", "").Replace(written); signs != s || count != len(s)-strings.Count(s, ")") || strings.Count(written, "\n") != len(l) {
		t.Fatalf("P501: %q is written %q, of %d nodes", s, written, count)
	}
	again, err := sexp.Read([]byte(written))
	if err != nil || !slices.EqualFunc(l, again, sexp.Same) {
		t.Fatalf("P501: %q is written %q, and read as %+v, %v", s, written, again, err)
	}
}

func TestSame(t *testing.T) {
	texts := []string{"a", "b", "1", "2", "\"a\"", "\"1\"", "?a", "?*a*", "~a", "~b", "~1", "~?a", "()", "(a)", "(b)", "(~a)", "(a b)", "(b a)", "(a a)", "(())", "(() ())", "((a))", "((a) b)", "(a (b))", "((a b))", "(a (b c) d)", "(a (b d) d)", "(a (b c) e)", "(a (b c d))", "(a (b c))"}
	for i, s := range texts {
		for k, u := range texts {
			// The same one stands elsewhere in its text.
			wide := " \n" + strings.NewReplacer("(", " (  ", ")", "\t) ", "~", "~ ").Replace(u)
			a, b := read(t, s)[0], read(t, wide)[0]
			if sexp.Same(a, b) != (i == k) || sexp.Same(b, a) != (i == k) {
				t.Errorf("P501: Same(%q, %q) is not %v", s, wide, i == k)
			}
		}
	}
	if a, b := list(0), (sexp.Node{Kids: nodes()}); !sexp.Same(a, b) || !sexp.Same(b, sexp.Node{At: 9, Kids: make([]sexp.Node, 0, 3)}) {
		t.Error("P501: Same of lists without kids")
	}
	a := sexp.Node{Kind: api.Int, At: 1, I: 2, S: "s", Kids: nodes(number(0, 1))}
	for i, b := range nodes(sexp.Node{Kind: api.Sym, At: 1, I: 2, S: "s", Kids: a.Kids}, sexp.Node{Kind: api.Int, At: 1, I: 3, S: "s", Kids: a.Kids}, sexp.Node{Kind: api.Int, At: 1, I: 2, S: "t", Kids: a.Kids}, sexp.Node{Kind: api.Int, At: 1, I: 2, S: "s"}, sexp.Node{Kind: api.Int, At: 1, I: 2, S: "s", Kids: nodes(number(0, 2))}) {
		if sexp.Same(a, b) || sexp.Same(b, a) {
			t.Errorf("P501: Same: case %d", i)
		}
	}
	if b := (sexp.Node{Kind: api.Int, At: 7, I: 2, S: "s", Kids: nodes(number(8, 1))}); !sexp.Same(a, b) {
		t.Error("P501: Same: At counts")
	}
}

func TestText(t *testing.T) {
	for _, c := range []struct{ s, want string }{
		{"a", "a"}, {"+07", "7"}, {"-0", "0"}, {"?x", "?x"}, {"?*x*", "?*x*"}, {`"a\"b\\\c"`, `"a\"b\\c"`}, {"~ a", "~a"}, {"~ ?x", "~?x"}, {"~ \"s\"", `~"s"`}, {"~ ?*g*", "~?*g*"},
		{"( )", "()"}, {"( a )", "(a)"}, {"(a(b)c)", "(a (b) c)"}, {"(()())", "(() ())"}, {"( ( ) a)", "(() a)"}, {"((( ~a)))", "(((~a)))"}, {"(~a~b)", "(~a ~b)"}, {"(a\n\t1\"s\"?x?*g*)", `(a 1 "s" ?x ?*g*)`},
		{"(a;b\n)", "(a)"}, {times("(", 32) + times(")", 32), times("(", 32) + times(")", 32)},
	} {
		l := read(t, c.s)
		if len(l) != 1 || sexp.Text(l[0]) != c.want || sexp.Lines(l) != c.want+"\n" {
			t.Errorf("P501: %q is written %q, not %q", c.s, sexp.Lines(l), c.want)
		}
	}
	if s := sexp.Lines(read(t, "a(b ~c)() 5")); s != "a\n(b ~c)\n()\n5\n" {
		t.Errorf("P501: Lines: %q", s)
	}
	if sexp.Lines(nil) != "" || sexp.Lines(nodes()) != "" {
		t.Error("P501: Lines of nothing")
	}
	// A list that was not read has no less of a text.
	if s := sexp.Text(list(0, make([]sexp.Node, 5000)...)); s != "("+times("() ", 4999)+"())" {
		t.Errorf("P501: Text of a long list: %.20q", s)
	}
}

func TestCount(t *testing.T) {
	for s, want := range map[string]int{"a": 1, "7": 1, "\"s\"": 1, "?x": 1, "?*g*": 1, "~a": 2, "()": 1, "(a)": 2, "(a b)": 3, "(~a)": 3, "(())": 2, "(a (b ~?x) () \"s\")": 8} {
		if n := sexp.Count(read(t, s)[0]); n != want {
			t.Errorf("P501: Count(%q): %d, not %d", s, n, want)
		}
	}
	if n := sexp.Count(list(0, make([]sexp.Node, 5000)...)); n != 5001 {
		t.Errorf("P501: Count of a long list: %d", n)
	}
}

func TestHead(t *testing.T) {
	for s, want := range map[string]string{"(a)": "a", "(a b)": "a", "(=> (b))": "=>", "(TRUE)": "TRUE", "()": "", "(1)": "", "(1 a)": "", "(\"a\")": "", "(?a)": "", "(?*a*)": "", "(~a)": "", "((a))": "", "((a) b)": "", "a": "", "~a": "", "\"a\"": "", "?a": "", "?*a*": "", "5": ""} {
		if h := sexp.Head(read(t, s)[0]); h != want {
			t.Errorf("P501: Head(%q): %q, not %q", s, h, want)
		}
	}
}

func TestValue(t *testing.T) {
	for s, want := range map[string]api.Value{
		"0": {Kind: api.Int}, "-7": {Kind: api.Int, I: -7}, "9223372036854775807": {Kind: api.Int, I: math.MaxInt64}, "-9223372036854775808": {Kind: api.Int, I: math.MinInt64},
		"a": {Kind: api.Sym, S: "a"}, "FALSE": {Kind: api.Sym, S: "FALSE"}, "+": {Kind: api.Sym, S: "+"}, "\"\"": {Kind: api.Str}, "\"a b\"": {Kind: api.Str, S: "a b"}, "\"7\"": {Kind: api.Str, S: "7"},
	} {
		if v, ok := sexp.Value(read(t, " "+s)[0]); v != want || !ok {
			t.Errorf("P501: Value(%q): %+v, %v", s, v, ok)
		}
	}
	for _, s := range []string{"()", "(a)", "(1)", "~a", "~1", "?x", "?*g*"} {
		if v, ok := sexp.Value(read(t, s)[0]); v != (api.Value{}) || ok {
			t.Errorf("P501: Value(%q): %+v, %v", s, v, ok)
		}
	}
	for _, kind := range []int{math.MinInt, -1, sexp.List, lex.Open, lex.Close, lex.Var, lex.Glob, lex.Not, 9, math.MaxInt} {
		if v, ok := sexp.Value(sexp.Node{Kind: kind, At: 1, I: 2, S: "s"}); v != (api.Value{}) || ok {
			t.Errorf("P501: Value of kind %d: %+v, %v", kind, v, ok)
		}
	}
}

// outer is an error that wraps another one, and is no Fault.
type outer struct{ inner error }

func (o outer) Error() string { return "outer" }
func (o outer) Unwrap() error { return o.inner }

// row is an error that can't be held against another one by ==.
type row []string

func (r row) Error() string { return strings.Join(r, "") }

func at(part string, n int, err error) error { return &api.Fault{Part: part, At: n, Err: err} }

func TestTold(t *testing.T) {
	other := errors.New("form")
	for i, c := range []struct {
		err  error
		told string
		n    api.Errno
	}{
		{nil, "", api.OK},
		{at("char", 0, api.ErrForm), "char 0: form", api.ErrForm},
		{at("run", 3, at("action", 0, api.ErrName)), "run 3: action 0: name", api.ErrName},
		{at("a", 1, at("b", -2, at("c", 3, at("d", 4, api.ErrFuel)))), "a 1: b -2: c 3: d 4: fuel", api.ErrFuel},
		{at("a", math.MinInt, api.ErrArg), "a -9223372036854775808: arg", api.ErrArg},
		{at("a", math.MaxInt, api.ErrArg), "a 9223372036854775807: arg", api.ErrArg},
		{at("", 0, api.ErrFull), " 0: full", api.ErrFull},
		{other, "?", api.ErrForm},
		{row{"a"}, "?", api.ErrForm},
		{at("a", 1, other), "a 1: ?", api.ErrForm},
		{at("a", 1, at("b", 2, row{"a"})), "a 1: b 2: ?", api.ErrForm},
		{at("a", 1, nil), "a 1", api.ErrForm},
		{at("a", 1, at("b", 2, nil)), "a 1: b 2", api.ErrForm},
		{outer{api.ErrType}, "type", api.ErrType},
		{outer{other}, "?", api.ErrForm},
		{outer{nil}, "?", api.ErrForm},
		{outer{at("a", 1, outer{at("b", 2, outer{api.ErrType})})}, "a 1: b 2: type", api.ErrType},
		{at("a", 1, api.Errno(99)), "a 1: error", 99},
		{api.Errno(-1), "error", -1},
	} {
		if told, n := sexp.Told(c.err), sexp.Number(c.err); told != c.told || n != c.n {
			t.Errorf("P502: case %d: %q, %v, not %q, %v", i, told, n, c.told, c.n)
		}
	}
}

// TestWords: each Errno, by itself and in a part.
func TestWords(t *testing.T) {
	words := []string{"arg", "form", "short", "long", "name", "twice", "bound", "type", "fuel", "full", "range"}
	for i, word := range words {
		n := api.ErrArg + api.Errno(i)
		if sexp.Told(n) != word || sexp.Number(n) != n {
			t.Errorf("P502: %d: %q, %v", n, sexp.Told(n), sexp.Number(n))
		}
		f := at("p", i, at("q", -i, n))
		if want := fmt.Sprintf("p %d: q %d: %s", i, -i, word); sexp.Told(f) != want || sexp.Number(f) != n {
			t.Errorf("P502: %q, not %q; %v", sexp.Told(f), want, sexp.Number(f))
		}
	}
}

// TestToldOfRead: Read's errors, its own and lex's, are told and asked alike (W4).
func TestToldOfRead(t *testing.T) {
	for s, want := range map[string]struct {
		told string
		n    api.Errno
	}{
		"a": {"", api.OK}, "(a))": {"char 3: form", api.ErrForm}, " (a": {"char 1: short", api.ErrShort}, times("(", 33): {"char 32: long", api.ErrLong},
		"a \x00": {"char 2: form", api.ErrForm}, "a \"": {"char 2: short", api.ErrShort}, "(" + times("x", 41): {"char 1: long", api.ErrLong}, "99999999999999999999": {"char 0: range", api.ErrRange},
	} {
		_, err := sexp.Read([]byte(s))
		if sexp.Told(err) != want.told || sexp.Number(err) != want.n || want.n != api.OK && !errors.Is(err, want.n) {
			t.Errorf("P502: %.20q: %q, %v", s, sexp.Told(err), sexp.Number(err))
		}
	}
}

// TestDeepNodes: lists that were not read may be in one another deeper than a stack of calls goes (P1).
func TestDeepNodes(t *testing.T) {
	const depth = 200000
	defer debug.SetMaxStack(debug.SetMaxStack(1 << 20))
	a, b, c := list(0), list(1), list(2, list(3))
	for range depth {
		a, b, c = list(0, a), list(1, b), list(2, c)
	}
	if n := sexp.Count(a); n != depth+1 {
		t.Errorf("P501: Count: %d", n)
	}
	if !sexp.Same(a, b) || sexp.Same(a, c) {
		t.Error("P501: Same")
	}
	want := times("(", depth+1) + times(")", depth+1)
	if sexp.Text(a) != want || sexp.Lines(nodes(a, b)) != want+"\n"+want+"\n" {
		t.Error("P501: Text")
	}
	var err error = api.ErrFuel
	for range depth {
		err = at("p", 7, err)
	}
	if sexp.Told(err) != times("p 7: ", depth)+"fuel" || sexp.Number(err) != api.ErrFuel {
		t.Error("P502: an error of many parts")
	}
}

// TestAnyNode: whatever node is handed in is answered (P1, P8), and not changed (P2).
func TestAnyNode(t *testing.T) {
	kinds := []int{math.MinInt, -1, sexp.List, api.Int, api.Sym, api.Str, lex.Open, lex.Close, lex.Var, lex.Glob, lex.Not, 9, math.MaxInt}
	var l []sexp.Node
	for _, kind := range kinds {
		for _, s := range []string{"", "x", "\xff\x00\"\\", times("9", 2000)} {
			n := sexp.Node{Kind: kind, At: kind, I: math.MinInt64, S: s}
			l = append(l, n)
			for _, other := range kinds {
				n.Kids = nodes(sexp.Node{Kind: other, S: s}, sexp.Node{Kind: other, Kids: nodes(sexp.Node{})})
				l = append(l, n)
			}
		}
	}
	was := copies(l)
	for i, n := range l {
		sexp.Text(n)
		sexp.Count(n)
		sexp.Head(n)
		sexp.Value(n)
		if !sexp.Same(n, was[i]) {
			t.Errorf("P501: node %d is not the same as its copy", i)
		}
	}
	sexp.Lines(l)
	if !equal(l, was) {
		t.Error("P501: a node was changed")
	}
}

// copies tells nodes that share nothing with l.
func copies(l []sexp.Node) []sexp.Node {
	l = slices.Clone(l)
	for i := range l {
		l[i].Kids = copies(l[i].Kids)
	}
	return l
}

// TestReadTakesNothing: what is handed in is not changed, with its spare room, and not kept; no two lists of the answers share room (P2).
func TestReadTakesNothing(t *testing.T) {
	whole := `(ab (?cd "e\"f" (1 2 3) ~?x) ?*gh* () 12) (a b c) ~y spare room`
	room := []byte(whole)
	b := room[:strings.Index(whole, " spare")]
	first, err := sexp.Read(b)
	if err != nil || string(room) != whole {
		t.Fatalf("P501: Read changed its text: %q, %v", room, err)
	}
	was := copies(first)
	second, _ := sexp.Read(b)
	places := map[*sexp.Node]int{}
	apart(t, first, places)
	apart(t, second, places)
	for i := range room {
		room[i] = '~'
	}
	if !equal(first, was) {
		t.Errorf("P501: Read kept its text: %+v, not %+v", first, was)
	}
}

// apart asks that no list has a place, its spare room too, that another one has.
func apart(t *testing.T, l []sexp.Node, places map[*sexp.Node]int) {
	t.Helper()
	for i := range cap(l) {
		place := &l[:cap(l)][i]
		if places[place]++; places[place] > 1 {
			t.Error("P501: two lists share room")
		}
	}
	for _, n := range l {
		apart(t, n.Kids, places)
	}
}

// TestReadAgain: the same text is answered the same, a refused one ahead of it or not (P3, P5).
func TestReadAgain(t *testing.T) {
	for _, s := range []string{"(a", "~", ")", times("(", 33), times("a ", api.MaxNodes) + "a", "\"a", "1 2"} {
		sexp.Read([]byte(s))
		holds(t, "a (~?b)", nodes(symbol(0, "a"), list(2, not(3, varOf(4, "b")))))
	}
}
