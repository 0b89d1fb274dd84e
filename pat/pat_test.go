package pat_test

import (
	"errors"
	"fmt"
	"math"
	"slices"
	"strings"
	"testing"

	"whelk/api"
	"whelk/eval"
	"whelk/lex"
	"whelk/pat"
	"whelk/sexp"
	"whelk/tmpl"
	"whelk/val"
	"whelk/wm"
)

// Parts of patterns, as Parse is to tell them.
func pattern(name string, tests ...pat.Test) pat.Pattern {
	return pat.Pattern{T: name, Tests: tests}
}
func is(slot int, v api.Value) pat.Test    { return pat.Test{Slot: slot, V: v} }
func isNot(slot int, v api.Value) pat.Test { return pat.Test{Slot: slot, Not: true, V: v} }
func of(slot int, name string) pat.Test    { return pat.Test{Slot: slot, Var: name} }
func notOf(slot int, name string) pat.Test {
	return pat.Test{Slot: slot, Not: true, Var: name}
}

func bind(name string, v api.Value) eval.Bind { return eval.Bind{Name: name, V: v} }
func times(s string, n int) string            { return strings.Repeat(s, n) }

// template tells a template with slots of these names.
func template(name string, slots ...string) tmpl.Template {
	t := tmpl.Template{Name: name}
	for _, s := range slots {
		t.Slots = append(t.Slots, tmpl.Slot{Name: s, Default: val.OfSym("nil")})
	}
	return t
}

// templates are those of most tests.
func templates() []tmpl.Template {
	return []tmpl.Template{template("p", "a", "b", "c"), template("q"), template("test", "not", "test"), template("P", "A")}
}

// read tells the one node of a text.
func read(t *testing.T, s string) sexp.Node {
	t.Helper()
	l, err := sexp.Read([]byte(s))
	if err != nil || len(l) != 1 {
		t.Fatalf("Read(%.80q): %d nodes, %v", s, len(l), err)
	}
	return l[0]
}

// parse tells the pattern of a text that is good.
func parse(t *testing.T, s string) pat.Pattern {
	t.Helper()
	p, err := pat.Parse(read(t, s), templates())
	if err != nil {
		t.Fatalf("P1101: Parse(%.80q): %v", s, err)
	}
	return p
}

// equal tells whether a and b are the same in all fields; no list and an empty one are the same (P2).
func equal(a, b pat.Pattern) bool {
	return a.T == b.T && slices.Equal(a.Tests, b.Tests)
}

// equalNodes tells whether a and b are the same in all fields, At too.
func equalNodes(a, b sexp.Node) bool {
	return a.Kind == b.Kind && a.At == b.At && a.I == b.I && a.S == b.S && slices.EqualFunc(a.Kids, b.Kids, equalNodes)
}

// placeless tells whether n and all in it have At 0.
func placeless(n sexp.Node) bool {
	return n.At == 0 && !slices.ContainsFunc(n.Kids, func(kid sexp.Node) bool { return !placeless(kid) })
}

// holds asks that Parse tells want of s, that Node tells back as it is written, and Parse again of that.
func holds(t *testing.T, l []tmpl.Template, s, back string, want pat.Pattern) {
	t.Helper()
	p, err := pat.Parse(read(t, s), l)
	if err != nil || !equal(p, want) {
		t.Errorf("P1101: Parse(%.80q): %+v, %v, not %+v", s, p, err, want)
		return
	}
	n := pat.Node(p, l)
	if sexp.Text(n) != back || !sexp.Same(n, read(t, back)) || !placeless(n) {
		t.Errorf("P1101: Node of %.80q: %+v, not %.80q", s, n, back)
	}
	if again, err := pat.Parse(n, l); err != nil || !equal(again, p) || !pat.Same(again, p) {
		t.Errorf("P1101: %.80q there and back: %+v, %v", s, again, err)
	}
}

// refuses asks that Parse tells this error of s, as one Fault, and nothing beside it.
func refuses(t *testing.T, s string, at int, want api.Errno) {
	t.Helper()
	refusesNode(t, read(t, s), at, want)
}

func refusesNode(t *testing.T, n sexp.Node, at int, want api.Errno) {
	t.Helper()
	p, err := pat.Parse(n, templates())
	var f *api.Fault
	var number api.Errno
	if p.T != "" || len(p.Tests) != 0 || !errors.As(err, &f) || !errors.As(err, &number) {
		t.Errorf("P1101: Parse(%.80q): %+v, %v, not char %d: %v", sexp.Text(n), p, err, at, want)
		return
	}
	if *f != (api.Fault{Part: "char", At: at, Err: want}) || number != want || !errors.Is(err, want) {
		t.Errorf("P1101: Parse(%.80q): %v, not char %d: %v", sexp.Text(n), err, at, want)
	}
}

func TestParse(t *testing.T) {
	for _, c := range []struct {
		s string
		p pat.Pattern
	}{
		{"(p)", pattern("p")},
		{"(q)", pattern("q")},
		{"(p (a 1))", pattern("p", is(0, val.OfInt(1)))},
		{"(p (b red))", pattern("p", is(1, val.OfSym("red")))},
		{"(p (c \"s\"))", pattern("p", is(2, val.OfStr("s")))},
		{"(p (a ?x))", pattern("p", of(0, "x"))},
		{"(p (c ~?x))", pattern("p", notOf(2, "x"))},
		{"(p (c ~5))", pattern("p", isNot(2, val.OfInt(5)))},
		{"(p (b ~red))", pattern("p", isNot(1, val.OfSym("red")))},
		{"(p (a ~\"\"))", pattern("p", isNot(0, val.OfStr("")))},
		{"(p (c ?x) (a ?x) (b ~?x))", pattern("p", of(2, "x"), of(0, "x"), notOf(1, "x"))},
		{"(p (b 7) (a ~?b) (c ?a))", pattern("p", is(1, val.OfInt(7)), notOf(0, "b"), of(2, "a"))},
		{"(p (a p) (b a))", pattern("p", is(0, val.OfSym("p")), is(1, val.OfSym("a")))},
		{"(test (test test) (not ?not))", pattern("test", is(1, val.OfSym("test")), of(0, "not"))},
		{"(P (A ?A))", pattern("P", of(0, "A"))},
	} {
		holds(t, templates(), c.s, c.s, c.p)
	}
	holds(t, templates(), " ( p;(b 1)\n( c\t~ ?x)(a\n+007) )", "(p (c ~?x) (a 7))", pattern("p", notOf(2, "x"), is(0, val.OfInt(7))))
}

// TestTerms: each kind of value, at its ends too, and names up to the longest, with `~` ahead and without.
func TestTerms(t *testing.T) {
	for _, v := range []api.Value{
		val.OfInt(0), val.OfInt(7), val.OfInt(-7), val.OfInt(math.MinInt64), val.OfInt(math.MaxInt64),
		val.OfSym("a"), val.OfSym("nil"), val.OfSym("+"), val.OfSym("a.b"), val.OfSym("<-"), val.OfSym("=>"), val.OfSym("9x"), val.OfSym("-"), val.OfSym("FALSE"), val.OfSym(times("&", api.MaxName)),
		val.OfStr(""), val.OfStr("nil"), val.OfStr("7"), val.OfStr("say \"(a) ~?x\\"), val.OfStr("\n\x00\xff"), val.OfStr(times("\"", 1000)),
	} {
		s := "(p (b " + val.Text(v) + ") (a ~" + val.Text(v) + "))"
		holds(t, templates(), s, s, pattern("p", is(1, v), isNot(0, v)))
	}
	for _, name := range []string{"x", "X", "a", "p", "nil", "x-_9", "TRUE", times("x", api.MaxName)} {
		s := "(p (b ?" + name + ") (c ~?" + name + "))"
		holds(t, templates(), s, s, pattern("p", of(1, name), notOf(2, name)))
	}
}

// TestTemplates: the first template of a name is taken, there and back; those that are not asked for do not count.
func TestTemplates(t *testing.T) {
	l := []tmpl.Template{template("q", "x"), template("p", "a", "b"), template("p", "b", "c", "a"), template("r")}
	holds(t, l, "(p (b 1))", "(p (b 1))", pattern("p", is(1, val.OfInt(1))))
	holds(t, l, "(r)", "(r)", pattern("r"))
	holds(t, l, "(q (x ?x))", "(q (x ?x))", pattern("q", of(0, "x")))
	if p, err := pat.Parse(read(t, "(p (c 1))"), l); sexp.Told(err) != "char 3: name" || !equal(p, pat.Pattern{}) {
		t.Errorf("P1101: a slot that just a second template of the name has: %+v, %v", p, err)
	}
	for _, l := range [][]tmpl.Template{nil, {}, l[:1], l[2:2]} {
		if p, err := pat.Parse(read(t, " (p)"), l); sexp.Told(err) != "char 1: name" || !equal(p, pat.Pattern{}) {
			t.Errorf("P1101: without that template: %+v, %v", p, err)
		}
	}
	var slots, parts []string
	var tests []pat.Test
	for i := range api.MaxSlots {
		slots = append(slots, fmt.Sprint("s", i))
		parts = append(parts, fmt.Sprintf(" (s%d %d)", i, 100+i))
		tests = append(tests, is(i, val.OfInt(int64(100+i))))
	}
	slices.Reverse(parts)
	slices.Reverse(tests)
	s := "(great" + strings.Join(parts, "") + ")"
	holds(t, []tmpl.Template{template("great", slots...)}, s, s, pattern("great", tests...))
}

// TestForm: what is no list with a symbol ahead is refused at its own place.
func TestForm(t *testing.T) {
	for _, s := range []string{
		"p", "7", "\"p\"", "?p", "?*p*", "~p", "~7", "~?p",
		"()", "(())", "((p))", "((p) (a 1))", "(7)", "(\"p\")", "(\"p\" (a 1))", "(?p)", "(?p <- (p))", "(?*p* (a 1))", "(~p)", "(~p (a 1))", "((a 1))", "(7 (a 1) (a 1))",
	} {
		refuses(t, s, 0, api.ErrForm)
		refuses(t, "\n ;\n"+s+" ", 4, api.ErrForm)
	}
}

// TestName: a template that is none is refused ahead of all that is wrong behind its name.
func TestName(t *testing.T) {
	for _, s := range []string{"x", "a", "A", "Q", "pp", "nil", "slot", "p.", "M::p", times("p", api.MaxName)} {
		for _, rest := range []string{"", " (a 1)", " a", " ()", " (a 1) (a 1)", " (a ())", " (d 1)", " p"} {
			refuses(t, "("+s+rest+")", 0, api.ErrName)
			refuses(t, "\t\n"+"("+s+rest+")", 2, api.ErrName)
		}
	}
}

// notSlots are nodes that ask nothing of any slot.
func notSlots() []string {
	return []string{
		"x", "a", "7", "\"a\"", "?a", "?*a*", "~a", "~7", "~?a",
		"()", "(())", "(a)", "((a))", "((a 1))", "((a) 1)", "(5)", "(5 1)", "(\"a\" 1)", "(?a 1)", "(?a ?x)", "(?*a* 1)", "(~a 1)", "(~a ~1)",
		"(a 1 2)", "(a ?x ?y)", "(a ~1 ~2)", "(a 1 ())", "(a b 1)", "(a ~ 1 1)", "(d)", "(d 1 2)", "(z () ())",
	}
}

// notTerms are nodes that ask for no value and no variable.
func notTerms() []string {
	return []string{"()", "(())", "(1)", "(x)", "(?x)", "(+ 1 2)", "(~x)", "?*x*", "~?*x*"}
}

// aheads are the beginnings of patterns whose slot a is not named yet.
func aheads() []string {
	return []string{"(p ", "(p\n", " (p ", "(p (b 1) ", "(p (b ?x)(c ~?x)"}
}

// TestSlotForm: what asks nothing of a slot is refused where it stands, whatever stands behind it.
func TestSlotForm(t *testing.T) {
	for _, ahead := range aheads() {
		for _, behind := range []string{"", " x", " (a 1) (a 1)", " (d 1)", " ()"} {
			for _, s := range notSlots() {
				refuses(t, ahead+s+behind+")", len(ahead), api.ErrForm)
			}
			for _, s := range notTerms() {
				refuses(t, ahead+"(a  "+s+")"+behind+")", len(ahead), api.ErrForm)
			}
		}
	}
	for _, s := range notSlots() {
		refuses(t, "(p (a 1) "+s+")", 9, api.ErrForm)
		refuses(t, "(q "+s+")", 3, api.ErrForm)
	}
}

// TestSlotName: a slot that is none, of this template, is refused ahead of a term that is none.
func TestSlotName(t *testing.T) {
	for _, ahead := range aheads() {
		for _, name := range []string{"d", "A", "p", "q", "nil", "slot", "aa", "not", times("a", api.MaxName)} {
			for _, term := range append(notTerms(), "1", "x", "\"s\"", "?x", "~?x", "~1") {
				refuses(t, ahead+"("+name+" "+term+"))", len(ahead), api.ErrName)
				refuses(t, ahead+"("+name+" "+term+") x ("+name+" 1))", len(ahead), api.ErrName)
			}
		}
	}
	refuses(t, "(q (a 1))", 3, api.ErrName)
	refuses(t, "(test (a 1))", 6, api.ErrName)
	refuses(t, "(P (a 1))", 3, api.ErrName)
}

// TestTwice: a slot that was named is refused, whatever is asked of it, a term that is none too.
func TestTwice(t *testing.T) {
	for _, first := range []string{"1", "x", "\"s\"", "?x", "~?x", "~1"} {
		for _, second := range append(notTerms(), "1", "x", "\"s\"", "?x", "~?x", "~1") {
			ahead := "(p (a " + first + ") (b " + first + ") "
			for _, slot := range []string{"a", "b"} {
				refuses(t, ahead+"("+slot+" "+second+"))", len(ahead), api.ErrTwice)
				refuses(t, ahead+"("+slot+" "+second+") x)", len(ahead), api.ErrTwice)
			}
		}
	}
	refuses(t, "(p (a 1) (a 1) (a 1))", 9, api.ErrTwice)
	refuses(t, "(p (c 1) (b 1) (a 1) (c 1) (b 1))", 21, api.ErrTwice)
}

// TestRows: all short rows of some few parts are answered as one who looks at the promise's words alone, part by part, would.
func TestRows(t *testing.T) {
	parts := []struct{ text, slot, wrong string }{
		{"(a 1)", "a", ""}, {"(b ?x)", "b", ""}, {"(c ~?x)", "c", ""}, {"(a ~\"s\")", "a", ""}, {"(a ())", "a", "form"}, {"(b ?*x*)", "b", "form"},
		{"x", "", "form"}, {"(a)", "", "form"}, {"(a 1 2)", "", "form"}, {"(d 1)", "", "name"}, {"(d ())", "", "name"},
	}
	count := len(parts)
	for n := range count * count * count * count {
		s, want := "(p", ""
		var slots []string
		for rest := n; rest > 0; rest /= count {
			part := parts[rest%count]
			s += " "
			here := fmt.Sprintf("char %d: ", len(s))
			s += part.text
			switch {
			case want != "":
			case part.slot != "" && slices.Contains(slots, part.slot):
				want = here + "twice"
			case part.wrong != "":
				want = here + part.wrong
			}
			slots = append(slots, part.slot)
		}
		s += ")"
		p, err := pat.Parse(read(t, s), templates())
		if sexp.Told(err) != want || want != "" && !equal(p, pat.Pattern{}) {
			t.Fatalf("P1101: Parse(%q): %+v, %v, not %q", s, p, err, want)
		}
		if want == "" && sexp.Text(pat.Node(p, templates())) != s {
			t.Fatalf("P1101: %q is told as %q", s, sexp.Text(pat.Node(p, templates())))
		}
	}
}

// TestNodesThatWereNotRead: a Parse of any node is answered, as far as the promise's words go.
func TestNodesThatWereNotRead(t *testing.T) {
	sym := func(s string) sexp.Node { return sexp.Node{Kind: api.Sym, At: 99, S: s} }
	list := func(at int, kids ...sexp.Node) sexp.Node { return sexp.Node{At: at, Kids: kids} }
	term := func(n sexp.Node) sexp.Node { return list(7, sym("p"), list(8, sym("b"), n)) }
	not := func(kids ...sexp.Node) sexp.Node { return sexp.Node{Kind: lex.Not, At: 99, Kids: kids} }
	good := term(sym("v"))
	for _, kind := range []int{math.MinInt, -1, api.Int, api.Sym, api.Str, lex.Open, lex.Close, lex.Var, lex.Glob, lex.Not, 9, math.MaxInt} {
		refusesNode(t, sexp.Node{Kind: kind, At: 5, S: "p", Kids: good.Kids}, 5, api.ErrForm)
		refusesNode(t, list(7, sym("p"), sexp.Node{Kind: kind, At: math.MinInt, S: "b", Kids: good.Kids[1].Kids}), math.MinInt, api.ErrForm)
		if kind != api.Sym {
			refusesNode(t, list(7, sexp.Node{Kind: kind, At: 5, S: "p"}), 7, api.ErrForm)
			refusesNode(t, list(7, sym("p"), list(8, sexp.Node{Kind: kind, At: 5, S: "b"}, sym("v"))), 8, api.ErrForm)
		}
		switch kind {
		case api.Int, api.Sym, api.Str, lex.Var:
		default:
			refusesNode(t, term(sexp.Node{Kind: kind, S: "v"}), 8, api.ErrForm)
			refusesNode(t, term(not(sexp.Node{Kind: kind, S: "v"})), 8, api.ErrForm)
		}
	}
	for _, n := range []sexp.Node{not(), not(sym("v"), sym("v")), not(not(sym("v"))), not(list(9, sym("v"))), {Kind: lex.Var}, not(sexp.Node{Kind: lex.Var}), {Kind: lex.Not, S: "v"}} {
		refusesNode(t, term(n), 8, api.ErrForm)
	}
	refusesNode(t, list(3, sym("")), 3, api.ErrName)
	refusesNode(t, list(3, sym("p"), list(4, sym(""), sym("v"))), 4, api.ErrName)
	refusesNode(t, sexp.Node{Kids: make([]sexp.Node, 0, 4)}, 0, api.ErrForm)
	// What a leaf or a list holds beside its own fields is not told (P4).
	good.S, good.I, good.Kids[0].I, good.Kids[0].Kids = "s", 1, 1, []sexp.Node{sym("x")}
	good.Kids[1].S, good.Kids[1].Kids[1].Kids = "s", []sexp.Node{sym("x"), list(0)}
	if p, err := pat.Parse(good, templates()); err != nil || !equal(p, pattern("p", is(1, val.OfSym("v")))) {
		t.Errorf("P1101: %+v, %v", p, err)
	}
	v := sexp.Node{Kind: lex.Var, I: 5, S: "x", Kids: []sexp.Node{sym("x")}}
	if p, err := pat.Parse(term(v), templates()); err != nil || !equal(p, pattern("p", of(1, "x"))) {
		t.Errorf("P1101: %+v, %v", p, err)
	}
	n := not(v)
	n.I, n.S = 5, "y"
	if p, err := pat.Parse(term(n), templates()); err != nil || !equal(p, pattern("p", notOf(1, "x"))) {
		t.Errorf("P1101: %+v, %v", p, err)
	}
}

// TestDeep: a node that was not read may be deeper than a stack of calls goes (P1).
func TestDeep(t *testing.T) {
	lists, nots := sexp.Node{Kind: api.Sym, S: "p"}, sexp.Node{Kind: api.Sym, S: "p"}
	for range 1000000 {
		lists = sexp.Node{At: 77, Kids: []sexp.Node{{Kind: api.Sym, S: "a"}, lists}}
		nots = sexp.Node{Kind: lex.Not, At: 77, Kids: []sexp.Node{nots}}
	}
	for _, deep := range []sexp.Node{lists, nots} {
		n := read(t, "(p (b 1))")
		n.Kids[1].Kids[1] = deep
		if p, err := pat.Parse(n, templates()); sexp.Told(err) != "char 3: form" || !equal(p, pat.Pattern{}) {
			t.Errorf("P1101: a deep term: %v", err)
		}
		n.Kids[1] = deep
		if p, err := pat.Parse(n, templates()); sexp.Told(err) != "char 77: form" || !equal(p, pat.Pattern{}) {
			t.Errorf("P1101: a deep slot: %v", err)
		}
	}
	if _, err := pat.Parse(lists, templates()); sexp.Told(err) != "char 77: name" {
		t.Errorf("P1101: a deep pattern: %v", err)
	}
}

func TestSame(t *testing.T) {
	texts := []string{
		"(p)", "(q)", "(P)", "(test)", "(p (a 1))", "(p (b 1))", "(p (a 2))", "(p (a \"1\"))", "(p (a x))", "(p (a X))", "(p (a \"x\"))", "(p (a ?x))", "(p (a ?y))", "(p (a ~1))", "(p (a ~?x))", "(p (a ~x))",
		"(p (a 1) (b 1))", "(p (b 1) (a 1))", "(p (a 1) (b ~1))", "(p (a ~1) (b 1))", "(p (a 1) (b 1) (c 1))", "(p (a ?x) (b ?x))", "(p (a ?x) (b ?y))", "(p (a ?x) (b ~?x))", "(P (A 1))",
	}
	for i, s := range texts {
		for k, u := range texts {
			// The same one stands elsewhere in its text.
			a, b := parse(t, s), parse(t, " \n"+strings.ReplaceAll(u, "(", " (  "))
			if pat.Same(a, b) != (i == k) || pat.Same(b, a) != (i == k) {
				t.Errorf("P1101: Same(%q, %q) is not %v", s, u, i == k)
			}
		}
	}
	if a, b := pattern("p"), (pat.Pattern{T: "p", Tests: make([]pat.Test, 0, 3)}); !pat.Same(a, b) || !pat.Same(b, a) || !pat.Same(pat.Pattern{}, pat.Pattern{}) {
		t.Error("P1101: Same of no list and an empty one")
	}
	room := []pat.Test{of(0, "x"), of(1, "y")}
	if !pat.Same(pattern("p", room[:1]...), pattern("p", of(0, "x"))) {
		t.Error("P1101: Same of spare room")
	}
}

// TestSameFields: all fields of a Test count.
func TestSameFields(t *testing.T) {
	base := pat.Test{Slot: 3, Not: true, Var: "x", V: api.Value{Kind: 7, I: 8, S: "v"}}
	changes := []pat.Test{base, base, base, base, base, base, {}}
	changes[0].Slot, changes[1].Not, changes[2].Var = 4, false, "y"
	changes[3].V.Kind, changes[4].V.I, changes[5].V.S = 6, 9, "w"
	for i, c := range changes {
		a, b := pattern("p", of(0, "x"), base), pattern("p", of(0, "x"), c)
		if pat.Same(a, b) || pat.Same(b, a) || !pat.Same(b, pattern("p", of(0, "x"), c)) {
			t.Errorf("P1101: Same: change %d", i)
		}
	}
}

// fact tells a fact of the template s with these values.
func fact(s string, l ...api.Value) wm.Fact { return wm.Fact{ID: 5, T: s, Vals: l} }

func TestMatch(t *testing.T) {
	one, two, red, s := val.OfInt(1), val.OfInt(2), val.OfSym("red"), val.OfStr("red")
	x1, y2 := bind("x", one), bind("y", two)
	env := []eval.Bind{x1, y2}
	f := fact("p", one, one, red)
	for _, c := range []struct {
		s    string
		env  []eval.Bind
		want []eval.Bind
		ok   bool
	}{
		{"(p)", nil, nil, true}, {"(p)", env, env, true}, {"(q)", env, nil, false}, {"(P (A 1))", env, nil, false},
		{"(p (a 1))", env, env, true}, {"(p (a 2))", env, nil, false}, {"(p (a ~2))", env, env, true}, {"(p (a ~1))", env, nil, false},
		{"(p (c red))", nil, nil, true}, {"(p (c \"red\"))", nil, nil, false}, {"(p (c ~\"red\"))", nil, nil, true}, {"(p (a \"1\"))", nil, nil, false}, {"(p (c ~red))", nil, nil, false}, {"(p (c RED))", nil, nil, false},
		{"(p (a ?x))", env, env, true}, {"(p (a ?y))", env, nil, false}, {"(p (a ~?x))", env, nil, false}, {"(p (a ~?y))", env, env, true},
		{"(p (a ~?z))", env, nil, false}, {"(p (a ~?x))", nil, nil, false}, {"(p (a ?z))", env, []eval.Bind{x1, y2, bind("z", one)}, true}, {"(p (a ?x))", nil, []eval.Bind{x1}, true},
		{"(p (c ?v) (a ?w))", env, []eval.Bind{x1, y2, bind("v", red), bind("w", one)}, true}, {"(p (a ?w) (c ?v))", []eval.Bind{y2}, []eval.Bind{y2, bind("w", one), bind("v", red)}, true},
		{"(p (a ?w) (b ?w))", nil, []eval.Bind{bind("w", one)}, true}, {"(p (a ?w) (c ?w))", nil, nil, false}, {"(p (a ?w) (c ~?w))", nil, []eval.Bind{bind("w", one)}, true}, {"(p (a ?w) (b ~?w))", nil, nil, false},
		{"(p (c ~?w) (a ?w))", nil, nil, false}, {"(p (a ?w) (b 2))", nil, nil, false}, {"(p (b 2) (a ?w))", nil, nil, false}, {"(p (a ?z) (b ~?u))", env, nil, false},
		{"(p (a ?X))", env, []eval.Bind{x1, y2, bind("X", one)}, true}, {"(p (a ?x) (c ?y))", env, nil, false},
		{"(p (c ?x))", []eval.Bind{bind("x", s)}, nil, false}, {"(p (c ~?x))", []eval.Bind{bind("x", s)}, []eval.Bind{bind("x", s)}, true},
		// Of several of one name the last one is asked, as eval.Get does.
		{"(p (a ?x))", []eval.Bind{x1, bind("x", two)}, nil, false}, {"(p (a ?x))", []eval.Bind{bind("x", two), x1}, []eval.Bind{bind("x", two), x1}, true},
	} {
		got, ok := parse(t, c.s).Match(f, c.env)
		if ok != c.ok || !slices.Equal(got, c.want) {
			t.Errorf("P1101: %s on %v: %v, %t, not %v, %t", c.s, c.env, got, ok, c.want, c.ok)
		}
	}
}

// TestFacts: facts that are not as their template has them are answered too; a slot that is not there does not hold, with Not neither.
func TestFacts(t *testing.T) {
	one := val.OfInt(1)
	x1 := []eval.Bind{bind("x", one)}
	for _, slot := range []int{math.MinInt, -1, 2, 3, math.MaxInt} {
		for _, test := range []pat.Test{is(slot, one), isNot(slot, one), of(slot, "x"), notOf(slot, "x"), of(slot, "y"), notOf(slot, "y"), is(slot, api.Value{})} {
			for _, tests := range [][]pat.Test{{test}, {of(0, "z"), test}, {test, of(0, "z")}} {
				p := pattern("p", tests...)
				env, ok := p.Match(fact("p", one, one), x1)
				if len(env) != 0 || ok || p.Alone(fact("p", one, one)) {
					t.Errorf("P1101: slot %d of two: %v, %t, %t", slot, env, ok, p.Alone(fact("p", one, one)))
				}
			}
		}
	}
	for _, f := range []wm.Fact{fact("p"), {T: "p", Vals: []api.Value{}}, fact("p", one)} {
		if env, ok := parse(t, "(p)").Match(f, x1); !slices.Equal(env, x1) || !ok || !parse(t, "(p)").Alone(f) {
			t.Errorf("P1101: (p) on %v: %v, %t", f, env, ok)
		}
		if env, ok := parse(t, "(p (b ?y))").Match(f, x1); len(env) != 0 || ok || parse(t, "(p (b ?y))").Alone(f) {
			t.Errorf("P1101: (p (b ?y)) on %v: %v, %t", f, env, ok)
		}
	}
	// More values than slots, and another number, count for nothing.
	for _, id := range []int{-1, 0, 1, math.MaxInt} {
		f := wm.Fact{ID: id, T: "p", Vals: []api.Value{one, one, one, one}}
		if env, ok := parse(t, "(p (c ?x))").Match(f, nil); !slices.Equal(env, x1) || !ok {
			t.Errorf("P1101: a fact of four values: %v, %t", env, ok)
		}
	}
	for _, name := range []string{"", "P", "pp", "q", "p "} {
		f := fact(name, one, one, one)
		if env, ok := parse(t, "(p)").Match(f, x1); len(env) != 0 || ok || parse(t, "(p)").Alone(f) {
			t.Errorf("P1101: (p) on a fact of %q: %v, %t", name, env, ok)
		}
	}
}

// matched tells what Match is to answer, by the promise's words, Test by Test.
func matched(p pat.Pattern, f wm.Fact, env []eval.Bind) ([]eval.Bind, bool) {
	if f.T != p.T {
		return nil, false
	}
	now := slices.Clone(env)
	for _, t := range p.Tests {
		if t.Slot < 0 || t.Slot >= len(f.Vals) {
			return nil, false
		}
		want, known := t.V, true
		if t.Var != "" {
			known = false
			for _, b := range now {
				if b.Name == t.Var {
					want, known = b.V, true
				}
			}
		}
		switch v := f.Vals[t.Slot]; {
		case !known && t.Not, known && (v == want) == t.Not:
			return nil, false
		case !known:
			now = append(now, bind(t.Var, v))
		}
	}
	return now, true
}

// alone tells what Alone is to answer, by the promise's words.
func alone(p pat.Pattern, f wm.Fact) bool {
	right := f.T == p.T
	for _, t := range p.Tests {
		there := t.Slot >= 0 && t.Slot < len(f.Vals)
		right = right && there && (t.Var != "" || (f.Vals[t.Slot] == t.V) != t.Not)
	}
	return right
}

// TestAllMatches: all short rows of some few Tests, on all facts of some few values, are answered as the promise's words tell.
func TestAllMatches(t *testing.T) {
	one, red := val.OfInt(1), val.OfSym("red")
	var tests []pat.Test
	for slot := range 3 {
		tests = append(tests, is(slot, one), isNot(slot, one), is(slot, red), of(slot, "x"), notOf(slot, "x"), of(slot, "y"), notOf(slot, "y"))
	}
	tests = append(tests, of(3, "x"), isNot(-1, one))
	envs := [][]eval.Bind{nil, {bind("x", one)}, {bind("y", one), bind("x", red)}, {bind("x", one), bind("x", red)}}
	facts := []wm.Fact{fact("q", one, one, one), fact("p", one, one)}
	for n := range 8 {
		l := []api.Value{one, one, one}
		for i := range l {
			if n>>i&1 == 1 {
				l[i] = red
			}
		}
		facts = append(facts, fact("p", l...))
	}
	count := len(tests) + 1
	for n := range count * count * count {
		p := pattern("p")
		for rest := n; rest > 0; rest /= count {
			if rest%count > 0 {
				p.Tests = append(p.Tests, tests[rest%count-1])
			}
		}
		for _, f := range facts {
			if p.Alone(f) != alone(p, f) {
				t.Fatalf("P1101: %+v, Alone on %+v: %t", p, f, p.Alone(f))
			}
			for _, env := range envs {
				got, ok := p.Match(f, env)
				if want, right := matched(p, f, env); ok != right || !slices.Equal(got, want) {
					t.Fatalf("P1101: %+v on %+v, %v: %v, %t, not %v, %t", p, f, env, got, ok, want, right)
				}
			}
		}
	}
}

func TestAlone(t *testing.T) {
	f := fact("p", val.OfInt(1), val.OfInt(1), val.OfSym("red"))
	for s, want := range map[string]bool{
		"(p)": true, "(q)": false, "(P)": false, "(p (a 1))": true, "(p (a 2))": false, "(p (a ~1))": false, "(p (a ~2))": true, "(p (c red))": true, "(p (c \"red\"))": false, "(p (c ~\"red\"))": true,
		"(p (a ?x))": true, "(p (a ~?x))": true, "(p (a ?x) (c ?x))": true, "(p (a ?x) (b ~?x))": true, "(p (a ?x) (b 2))": false, "(p (b 2) (a ?x))": false, "(p (a ~?x) (c red) (b ~2))": true, "(p (a 1) (b 1) (c blue))": false,
	} {
		if got := parse(t, s).Alone(f); got != want {
			t.Errorf("P1101: %s: Alone: %t", s, got)
		}
	}
}

func TestVars(t *testing.T) {
	for s, want := range map[string]string{
		"(p)": "", "(p (a x))": "", "(p (a \"x\"))": "", "(p (a ~x))": "", "(p (a ?x))": "x", "(p (a ~?x))": "", "(p (a ?x) (b ?y) (c ?z))": "x y z", "(p (c ?x) (a ?y) (b ?a))": "x y a",
		"(p (a ?y) (b ?x) (c ?y))": "y x", "(p (a ?x) (b ?x) (c ?x))": "x", "(p (a ~?x) (b ?y) (c ?x))": "y x", "(p (a ?x) (b ~?x) (c ~?y))": "x", "(p (a 1) (b ?X) (c ?x))": "X x", "(q)": "",
	} {
		if got := parse(t, s).Vars(); !slices.Equal(got, strings.Fields(want)) {
			t.Errorf("P1101: %s: Vars: %q, not %q", s, got, want)
		}
	}
	if got := (pat.Pattern{}).Vars(); len(got) != 0 {
		t.Errorf("P1101: Vars of nothing: %q", got)
	}
}

// withRoom tells n with spare room, filled, behind each of its lists.
func withRoom(n sexp.Node) sexp.Node {
	kids := make([]sexp.Node, 0, len(n.Kids)+3)
	for _, kid := range n.Kids {
		kids = append(kids, withRoom(kid))
	}
	spare := kids[:cap(kids)]
	for i := len(kids); i < cap(kids); i++ {
		spare[i] = sexp.Node{Kind: api.Sym, S: "spare"}
	}
	n.Kids = kids
	return n
}

// copied tells a node that shares nothing with n, but for its spare room, which is as great.
func copied(n sexp.Node) sexp.Node {
	kids := make([]sexp.Node, cap(n.Kids))
	for i, kid := range n.Kids[:cap(n.Kids)] {
		kids[i] = copied(kid)
	}
	n.Kids = kids[:len(n.Kids)]
	return n
}

// equalRoom tells whether a and b are the same, their spare room too.
func equalRoom(a, b sexp.Node) bool {
	x, y := a.Kids[:cap(a.Kids)], b.Kids[:cap(b.Kids)]
	a.Kids, b.Kids = nil, nil
	return equalNodes(a, b) && slices.EqualFunc(x, y, equalRoom)
}

// spoil changes all of n, its spare room too.
func spoil(n *sexp.Node) {
	kids := n.Kids[:cap(n.Kids)]
	for i := range kids {
		spoil(&kids[i])
	}
	*n = sexp.Node{Kind: lex.Not, At: 1, I: 1, S: "spoilt"}
}

// templatesWithRoom tells templates that have spare room, in each of their lists too.
func templatesWithRoom() []tmpl.Template {
	l := append(make([]tmpl.Template, 0, 8), templates()...)
	for i := range l {
		l[i].Slots = append(make([]tmpl.Slot, 0, 8), l[i].Slots...)
	}
	return l
}

// equalTemplates tells whether a and b are the same, their spare room too.
func equalTemplates(a, b []tmpl.Template) bool {
	return slices.EqualFunc(a[:cap(a)], b[:cap(b)], func(a, b tmpl.Template) bool {
		return a.Name == b.Name && slices.Equal(a.Slots[:cap(a.Slots)], b.Slots[:cap(b.Slots)])
	})
}

// spoilTemplates changes all of l.
func spoilTemplates(l []tmpl.Template) {
	for i := range l {
		clear(l[i].Slots)
	}
	clear(l)
}

// TestParseTakesNothing: what is handed in is not changed, with its spare room, and not kept; each answer is new memory (P2); a refusal changes nothing (P3, P5).
func TestParseTakesNothing(t *testing.T) {
	for _, s := range []string{"(p)", "(p (a 1) (b ~?x) (c \"s\"))", "(p (c ?x) (a ~1))", "(p (a 1) (a 1))", "(p (a ()))", "(z)", "()"} {
		n, l := withRoom(read(t, s)), templatesWithRoom()
		was := copied(n)
		first, errFirst := pat.Parse(n, l)
		kept, told := pattern(first.T, slices.Clone(first.Tests)...), sexp.Told(errFirst)
		pat.Parse(read(t, "(test (test 9) (test 9))"), l)
		second, errSecond := pat.Parse(n, l)
		if !equalRoom(n, was) || !equalTemplates(l, templatesWithRoom()) {
			t.Errorf("P1101: Parse(%q) changed what it was handed", s)
		}
		spoil(&n)
		spoilTemplates(l)
		if !equal(first, kept) || !equal(second, kept) || sexp.Told(errFirst) != told || sexp.Told(errSecond) != told {
			t.Errorf("P1101: Parse(%q) kept what it was handed, or is not the same again", s)
		}
		clear(first.Tests[:cap(first.Tests)])
		if !equal(second, kept) {
			t.Errorf("P1101: Parse(%q): two answers share room", s)
		}
	}
}

// apart asks that no list has a place, its spare room too, that another one has.
func apart(t *testing.T, n sexp.Node, places map[*sexp.Node]int) {
	t.Helper()
	for i := range cap(n.Kids) {
		place := &n.Kids[:cap(n.Kids)][i]
		if places[place]++; places[place] > 1 {
			t.Error("P1101: two lists share room")
		}
	}
	for _, kid := range n.Kids {
		apart(t, kid, places)
	}
}

// TestNodeTakesNothing: the nodes that are told are new ones, and pattern and templates stay as they are (P2).
func TestNodeTakesNothing(t *testing.T) {
	room := []pat.Test{of(2, "x"), notOf(0, "x"), isNot(1, val.OfStr("s")), is(0, val.OfInt(1))}
	were, l := slices.Clone(room), templatesWithRoom()
	p := pattern("p", room[:3]...)
	first, second := pat.Node(p, l), pat.Node(p, l)
	if sexp.Text(first) != "(p (c ?x) (a ~?x) (b ~\"s\"))" {
		t.Errorf("P1101: Node: %s", sexp.Text(first))
	}
	places := map[*sexp.Node]int{}
	apart(t, first, places)
	apart(t, second, places)
	spoil(&first)
	if !slices.Equal(room, were) || !equalTemplates(l, templatesWithRoom()) || !equalNodes(second, pat.Node(p, l)) {
		t.Error("P1101: Node shares room")
	}
	spoilTemplates(l)
	if !equalNodes(second, pat.Node(p, templates())) {
		t.Error("P1101: Node kept what it was handed")
	}
}

// TestMatchTakesNothing: Match, Alone and Vars leave pattern, fact and env as they are, with their spare room, and what they answer is new (P2); a fact that does not match changes nothing (P5).
func TestMatchTakesNothing(t *testing.T) {
	one, red := val.OfInt(1), val.OfSym("red")
	tests := []pat.Test{of(0, "x"), of(1, "y"), notOf(2, "x"), of(2, "z"), is(0, val.OfInt(9))}
	values := []api.Value{one, one, red, val.OfSym("spare")}
	binds := []eval.Bind{bind("v", red), bind("w", red), bind("spare", red), bind("spare", red), bind("spare", red)}
	testsWere, valuesWere, bindsWere := slices.Clone(tests), slices.Clone(values), slices.Clone(binds)
	f := fact("p", values[:3]...)
	for n := range 5 {
		for k := range 3 {
			p, env := pattern("p", tests[:n]...), binds[:k]
			first, _ := p.Match(f, env)
			kept := slices.Clone(first)
			pattern("p", tests...).Match(f, env)
			p.Alone(f)
			second, ok := p.Match(f, env)
			names := p.Vars()
			clear(first[:cap(first)])
			if want, _ := matched(p, f, env); !ok || !slices.Equal(second, want) || !slices.Equal(second, kept) {
				t.Errorf("P1101: %d, %d: %v, %t, not %v", n, k, second, ok, want)
			}
			clear(second[:cap(second)])
			again := slices.Clone(names)
			clear(names[:cap(names)])
			if third, _ := p.Match(f, env); !slices.Equal(third, kept) || !slices.Equal(p.Vars(), again) {
				t.Errorf("P1101: %d, %d: %v, %q, not %v, %q", n, k, third, p.Vars(), kept, again)
			}
		}
	}
	if !slices.Equal(tests, testsWere) || !slices.Equal(values, valuesWere) || !slices.Equal(binds, bindsWere) {
		t.Errorf("P1101: changed: %v, %v, %v", tests, values, binds)
	}
	got, _ := pattern("p", tests[:2]...).Match(f, binds[:1])
	clear(tests)
	clear(values)
	clear(binds)
	if !slices.Equal(got, []eval.Bind{bind("v", red), bind("x", one), bind("y", one)}) {
		t.Errorf("P1101: Match kept what it was handed: %v", got)
	}
}

// TestAnyPattern: whatever pattern, templates, fact and env are handed in are answered (P1, P8).
func TestAnyPattern(t *testing.T) {
	values := []api.Value{{}, {Kind: -1, I: 2, S: "v"}, {Kind: api.Int, S: "x"}, {Kind: lex.Not}, {Kind: lex.Close}, {Kind: math.MaxInt, I: math.MinInt64}, val.OfSym(""), val.OfStr("\xff")}
	var tests []pat.Test
	var binds []eval.Bind
	for i, v := range values {
		name := []string{"", "x", "\x00\xff\"("}[i%3]
		tests = append(tests, pat.Test{Slot: i - 2, Not: i%2 == 0, Var: name, V: v}, pat.Test{Slot: math.MaxInt - i}, pat.Test{Slot: math.MinInt + i, Var: name})
		binds = append(binds, bind(name, v))
	}
	lists := [][]tmpl.Template{nil, {{}}, {template("p", "", "a", "a", "\xff")}, templates(), {template("", ""), template("")}}
	for _, name := range []string{"", "p", "q", "\xff(\"", times("x", 100000)} {
		for n := range len(tests) + 1 {
			p := pattern(name, tests[:n]...)
			for _, l := range lists {
				node := pat.Node(p, l)
				sexp.Text(node)
				pat.Parse(node, l)
			}
			if !pat.Same(p, pattern(name, slices.Clone(tests[:n])...)) {
				t.Errorf("P1101: Same of %d tests", n)
			}
			p.Vars()
			for k := range len(values) + 1 {
				p.Match(fact(name, values[:k]...), binds[:k])
				p.Alone(fact(name, values[:k]...))
			}
		}
	}
	// Values go by all their fields, whatever these are.
	for i, v := range values {
		for k, w := range values {
			if _, ok := pattern("p", is(0, v)).Match(fact("p", w), nil); ok != (i == k) {
				t.Errorf("P1101: %v on %v: %t", v, w, ok)
			}
			if _, ok := pattern("p", notOf(0, "x")).Match(fact("p", w), []eval.Bind{bind("x", v)}); ok != (i != k) {
				t.Errorf("P1101: ~%v on %v: %t", v, w, ok)
			}
		}
	}
}

// TestGreat: a pattern of more Tests than a text can have.
func TestGreat(t *testing.T) {
	p, f, names := pattern("p"), fact("p"), []string{}
	for i := range 3000 {
		name := fmt.Sprint("x", i)
		names = append(names, name)
		p.Tests = append(p.Tests, of(i, name), notOf(i+3000, name))
		f.Vals = append(f.Vals, val.OfInt(int64(i)))
	}
	for range 3000 {
		f.Vals = append(f.Vals, val.OfSym("other"))
	}
	env, ok := p.Match(f, nil)
	if !ok || len(env) != 3000 || env[2999] != bind("x2999", val.OfInt(2999)) || !p.Alone(f) || !slices.Equal(p.Vars(), names) || !pat.Same(p, p) {
		t.Errorf("P1101: a great pattern: %d, %t", len(env), ok)
	}
	f.Vals[5999] = val.OfInt(2999)
	if env, ok := p.Match(f, nil); ok || len(env) != 0 || !p.Alone(f) {
		t.Errorf("P1101: a great pattern: %d, %t", len(env), ok)
	}
}
