package cond_test

import (
	"errors"
	"fmt"
	"math"
	"runtime/debug"
	"slices"
	"strings"
	"testing"

	"whelk/api"
	"whelk/cond"
	"whelk/expr"
	"whelk/lex"
	"whelk/pat"
	"whelk/sexp"
	"whelk/tmpl"
	"whelk/val"
)

// Conditions, as Parse is to tell them.
func pattern(name string, tests ...pat.Test) cond.CE {
	return cond.CE{Kind: cond.Pat, P: pat.Pattern{T: name, Tests: tests}}
}
func bound(name string, c cond.CE) cond.CE {
	c.Bind = name
	return c
}
func ask(e expr.Expr) cond.CE { return cond.CE{Kind: cond.Test, E: e} }
func of(kind int, kids ...cond.CE) cond.CE {
	return cond.CE{Kind: kind, Kids: kids}
}

// Parts of these.
func variable(s string) expr.Expr { return expr.Expr{Kind: expr.Var, S: s} }
func number(i int64) expr.Expr    { return expr.Expr{Kind: expr.Const, V: val.OfInt(i)} }
func call(s string, kids ...expr.Expr) expr.Expr {
	return expr.Expr{Kind: expr.Call, S: s, Kids: kids}
}
func isOne(slot int) pat.Test              { return pat.Test{Slot: slot, V: val.OfInt(1)} }
func isVar(slot int, name string) pat.Test { return pat.Test{Slot: slot, Var: name} }
func times(s string, n int) string         { return strings.Repeat(s, n) }

// words are those of the kinds of conditions in whose lists others stand, by their numbers.
func words() []string {
	return []string{cond.Not: "not", cond.And: "and", cond.Or: "or", cond.Exists: "exists", cond.Forall: "forall", cond.Logical: "logical"}
}

// templates are those of all tests; some of them are called as a word is.
func templates() []tmpl.Template {
	var l []tmpl.Template
	for _, names := range []string{"p a b", "q a", "r", "test a", "not a", "and", "logical r"} {
		parts := strings.Fields(names)
		t := tmpl.Template{Name: parts[0]}
		for _, s := range parts[1:] {
			t.Slots = append(t.Slots, tmpl.Slot{Name: s, Default: val.OfSym("nil")})
		}
		l = append(l, t)
	}
	return l
}

// funs are those of all tests.
func funs() []expr.Sig {
	return []expr.Sig{{Name: "f", Args: 1}, {Name: "none"}, {Name: "not", Args: 2}}
}

// read tells the nodes of a text.
func read(t *testing.T, s string) []sexp.Node {
	t.Helper()
	l, err := sexp.Read([]byte(s))
	if err != nil {
		t.Fatalf("Read(%.80q): %v", s, err)
	}
	return l
}

// parse tells the conditions of a text that is good.
func parse(t *testing.T, s string) []cond.CE {
	t.Helper()
	l, err := cond.Parse(read(t, s), templates(), funs())
	if err != nil {
		t.Fatalf("P1201: Parse(%.80q): %v", s, err)
	}
	return l
}

// text tells nodes as they are written, one behind the other.
func text(l []sexp.Node) string {
	var parts []string
	for _, n := range l {
		parts = append(parts, sexp.Text(n))
	}
	return strings.Join(parts, " ")
}

// equal tells whether a and b are the same in all fields; no list and an empty one are the same (P2).
func equal(a, b cond.CE) bool {
	return a.Kind == b.Kind && a.Bind == b.Bind && a.P.T == b.P.T && slices.Equal(a.P.Tests, b.P.Tests) && equalExprs(a.E, b.E) && equalAll(a.Kids, b.Kids)
}

func equalAll(a, b []cond.CE) bool { return slices.EqualFunc(a, b, equal) }

func equalExprs(a, b expr.Expr) bool {
	return a.Kind == b.Kind && a.V == b.V && a.S == b.S && slices.EqualFunc(a.Kids, b.Kids, equalExprs)
}

// equalNodes tells whether a and b are the same in all fields, At too.
func equalNodes(a, b sexp.Node) bool {
	return a.Kind == b.Kind && a.At == b.At && a.I == b.I && a.S == b.S && slices.EqualFunc(a.Kids, b.Kids, equalNodes)
}

// placeless tells whether all nodes of l have At 0.
func placeless(l []sexp.Node) bool {
	return !slices.ContainsFunc(l, func(n sexp.Node) bool { return n.At != 0 || !placeless(n.Kids) })
}

// holds asks that Parse tells want of s, that Nodes tells back as it is written, and Parse again of that.
func holds(t *testing.T, s, back string, want ...cond.CE) {
	t.Helper()
	l, err := cond.Parse(read(t, s), templates(), funs())
	if err != nil || !equalAll(l, want) {
		t.Errorf("P1201: Parse(%.80q): %+v, %v, not %+v", s, l, err, want)
		return
	}
	nodes := cond.Nodes(l, templates())
	if text(nodes) != back || !slices.EqualFunc(nodes, read(t, back), sexp.Same) || !placeless(nodes) {
		t.Errorf("P1201: Nodes of %.80q: %+v, not %.80q", s, nodes, back)
	}
	again, err := cond.Parse(nodes, templates(), funs())
	if err != nil || !equalAll(again, l) || !slices.EqualFunc(again, l, cond.Same) {
		t.Errorf("P1201: %.80q there and back: %+v, %v", s, again, err)
	}
}

// refuses asks that Parse tells this error of s, as one Fault, and nothing beside it.
func refuses(t *testing.T, s string, at int, want api.Errno) {
	t.Helper()
	refusesNodes(t, read(t, s), at, want)
}

func refusesNodes(t *testing.T, l []sexp.Node, at int, want api.Errno) {
	t.Helper()
	c, err := cond.Parse(l, templates(), funs())
	var f *api.Fault
	var number api.Errno
	if len(c) != 0 || !errors.As(err, &f) || !errors.As(err, &number) {
		t.Errorf("P1201: Parse(%.80q): %+v, %v, not char %d: %v", text(l), c, err, at, want)
		return
	}
	if *f != (api.Fault{Part: "char", At: at, Err: want}) || number != want || !errors.Is(err, want) {
		t.Errorf("P1201: Parse(%.80q): %v, not char %d: %v", text(l), err, at, want)
	}
}

func TestKinds(t *testing.T) {
	for i, kind := range []int{cond.Pat, cond.Test, cond.Not, cond.And, cond.Or, cond.Exists, cond.Forall, cond.Logical} {
		if kind != i+1 {
			t.Errorf("P1201: the kind %d is %d", i+1, kind)
		}
	}
}

func TestParse(t *testing.T) {
	r, one := pattern("r"), ask(number(1))
	for _, c := range []struct {
		s string
		l []cond.CE
	}{
		{"", nil},
		{"(r)", []cond.CE{r}},
		{"(p (a 1) (b ?x))", []cond.CE{pattern("p", isOne(0), isVar(1, "x"))}},
		{"(p (b ~?x))", []cond.CE{pattern("p", pat.Test{Slot: 1, Not: true, Var: "x"})}},
		{"?f <- (r)", []cond.CE{bound("f", r)}},
		{"?x <- (q (a ?x))", []cond.CE{bound("x", pattern("q", isVar(0, "x")))}},
		{"(test 1)", []cond.CE{one}},
		{"(test ?x)", []cond.CE{ask(variable("x"))}},
		{"(test (f ?x))", []cond.CE{ask(call("f", variable("x")))}},
		{"(test (not 1 ?x))", []cond.CE{ask(call("not", number(1), variable("x")))}},
		{"(test (and ?x (or)))", []cond.CE{ask(expr.Expr{Kind: expr.And, Kids: []expr.Expr{variable("x"), {Kind: expr.Or}}})}},
		{"(test ?*g*)", []cond.CE{ask(expr.Expr{Kind: expr.Glob, S: "g"})}},
		{"(not (r))", []cond.CE{of(cond.Not, r)}},
		{"(not ?f <- (r))", []cond.CE{of(cond.Not, bound("f", r))}},
		{"(not (test 1))", []cond.CE{of(cond.Not, one)}},
		{"(and (r))", []cond.CE{of(cond.And, r)}},
		{"(or (r) ?f <- (r) (test 1))", []cond.CE{of(cond.Or, r, bound("f", r), one)}},
		{"(exists (test 1))", []cond.CE{of(cond.Exists, one)}},
		{"(exists (r) (r) (r) (r))", []cond.CE{of(cond.Exists, r, r, r, r)}},
		{"(forall (r) (test 1))", []cond.CE{of(cond.Forall, r, one)}},
		{"(forall ?f <- (r) ?g <- (r) (r))", []cond.CE{of(cond.Forall, bound("f", r), bound("g", r), r)}},
		{"(logical (r))", []cond.CE{of(cond.Logical, r)}},
		{"(r) (logical (r) (test 1)) (logical (logical (r)))", []cond.CE{r, of(cond.Logical, r, one), of(cond.Logical, of(cond.Logical, r))}},
		{"(r) (r) (test 1) (r)", []cond.CE{r, r, one, r}},
		{"(and (or (not (exists (forall (r) (logical (r)) (r))) ) (r)) (test 1)) (r)", []cond.CE{of(cond.And, of(cond.Or, of(cond.Not, of(cond.Exists, of(cond.Forall, r, of(cond.Logical, r), r))), r), one), r}},
	} {
		holds(t, c.s, strings.ReplaceAll(c.s, ") )", "))"), c.l...)
	}
	holds(t, "\n( and;(r)\n(r)?f\t<-( p( a +1 ) ) )?g<-(r)( test\n(f(f 1)))", "(and (r) ?f <- (p (a 1))) ?g <- (r) (test (f (f 1)))",
		of(cond.And, r, bound("f", pattern("p", isOne(0)))), bound("g", r), ask(call("f", call("f", number(1)))))
	holds(t, "?f <- (r) ?"+times("x", api.MaxName)+" <- (r)", "?f <- (r) ?"+times("x", api.MaxName)+" <- (r)", bound("f", r), bound(times("x", api.MaxName), r))
}

// TestWordsAndTemplates: a list with a word ahead is of that word's kind, a template of that name or not; but behind `<-` it is a pattern.
func TestWordsAndTemplates(t *testing.T) {
	holds(t, "?f <- (test (a 1))", "?f <- (test (a 1))", bound("f", pattern("test", isOne(0))))
	holds(t, "(and ?f <- (and) ?g <- (not))", "(and ?f <- (and) ?g <- (not))", of(cond.And, bound("f", pattern("and")), bound("g", pattern("not"))))
	holds(t, "(not ?f <- (not (a 1)))", "(not ?f <- (not (a 1)))", of(cond.Not, bound("f", pattern("not", isOne(0)))))
	holds(t, "?f <- (logical (r ?r))", "?f <- (logical (r ?r))", bound("f", pattern("logical", isVar(0, "r"))))
	refuses(t, "(test (a 1))", 6, api.ErrName)
	refuses(t, "(not (a 1))", 5, api.ErrName)
	refuses(t, "(and)", 0, api.ErrForm)
	refuses(t, "(logical (r 1))", 12, api.ErrForm)
	for _, word := range []string{"or", "exists", "forall"} {
		refuses(t, "(r) ?f <- ("+word+" (r) (r))", 10, api.ErrName)
	}
	refuses(t, "?f <- (test 1)", 12, api.ErrForm)
	refuses(t, "?f <- (not (r))", 11, api.ErrForm)
	for _, s := range []string{"Test", "NOT", "tests", "no", "And", "if", "nand", "declare", "deftemplate", "<-", "=>", "logical."} {
		refuses(t, "(r) ("+s+" (r))", 4, api.ErrName)
		refuses(t, "(and ("+s+"))", 5, api.ErrName)
	}
}

// TestCounts: how many conditions may be in one of each kind, one with Bind counted once.
func TestCounts(t *testing.T) {
	for kind, word := range words() {
		if word == "" {
			continue
		}
		for _, kid := range []string{"(r)", "?f <- (r)", "(test 1)", "(and (r) (r))", "(not ?f <- (r))", "(forall (r) (r))"} {
			for count := range 6 {
				s := "(" + word + times(" "+kid, count) + ")"
				good := count > 0
				switch kind {
				case cond.Not:
					good = count == 1
				case cond.Forall:
					good = count > 1
				}
				if good {
					holds(t, s, s, of(kind, slices.Repeat(parse(t, kid), count)...))
					holds(t, "(r) (or "+s+") (r)", "(r) (or "+s+") (r)", pattern("r"), of(cond.Or, of(kind, slices.Repeat(parse(t, kid), count)...)), pattern("r"))
					continue
				}
				refuses(t, s, 0, api.ErrForm)
				refuses(t, s+" (z) ("+word+")", 0, api.ErrForm)
				refuses(t, "(r) (and (r) "+s+" (z))", 13, api.ErrForm)
			}
		}
	}
}

// aheads are the beginnings of texts in which a condition may come next.
func aheads() []string {
	return []string{"", " \n", "(r) ", "?g <- (r)", "(test 1)", "(not ", "(and ", "(or ", "(exists ", "(forall ", "(logical ", "(forall (r) ", "(and (r) ?h <- (r) ", "(not (or (test ?x)", "(not (r) "}
}

// close closes the lists of a text that are open.
func close(s string) string {
	return s + times(")", strings.Count(s, "(")-strings.Count(s, ")"))
}

// TestVars: a Var without `<-` and a list behind is refused where it stands, in whatever list, ahead of all that follows.
func TestVars(t *testing.T) {
	for _, ahead := range aheads() {
		for _, s := range []string{
			"?f", "?f <-", "?f <- r", "?f <- 5", "?f <- ?f", "?f <- ?g <- (r)", "?f <- ~r", "?f <- ~?x", "?f <- ?*f*", "?f <- \"(r)\"", "?f <- <- (r)",
			"?f (r)", "?f (r) <-", "?f ?g <- (r)", "?f => (r)", "?f < - (r)", "?f \"<-\" (r)", "?f ~<- (r)", "?f (<-) (r)", "?f <-- (r)", "?f (<- (r))", "?f 5 (r)", "?f ?f (r)",
		} {
			refuses(t, close(ahead+s), len(ahead), api.ErrForm)
			refuses(t, close(ahead+s+" 5 (z) (not)"), len(ahead), api.ErrForm)
		}
	}
	refuses(t, "(not ?f <-)", 5, api.ErrForm)
	refuses(t, "(and ?f <-) (r)", 5, api.ErrForm)
	refuses(t, "(and ?f) <- (r)", 5, api.ErrForm)
	refuses(t, "(test ?f <- (r))", 0, api.ErrForm)
}

// TestPatterns: what pat refuses is refused as pat refuses it, with Bind and without.
func TestPatterns(t *testing.T) {
	for _, ahead := range aheads() {
		for _, c := range []struct {
			s   string
			at  int
			err api.Errno
		}{
			{"()", 0, api.ErrForm}, {"(())", 0, api.ErrForm}, {"((r))", 0, api.ErrForm}, {"((not (r)))", 0, api.ErrForm}, {"(\"not\" (r))", 0, api.ErrForm}, {"(5 (r))", 0, api.ErrForm}, {"(?f <- (r))", 0, api.ErrForm}, {"(~not (r))", 0, api.ErrForm}, {"(?*not* (r))", 0, api.ErrForm},
			{"(z)", 0, api.ErrName}, {"(z (z))", 0, api.ErrName}, {"(p (c 1))", 3, api.ErrName}, {"(p a)", 3, api.ErrForm}, {"(p (a 1) (b))", 9, api.ErrForm}, {"(p (a 1) (a 2))", 9, api.ErrTwice}, {"(p (b (r)))", 3, api.ErrForm}, {"(q (a ?*g*))", 3, api.ErrForm}, {"(r (r))", 3, api.ErrForm},
		} {
			for _, bind := range []string{"", "?f <- ", "?f<-"} {
				refuses(t, close(ahead+bind+c.s), len(ahead+bind)+c.at, c.err)
				refuses(t, close(ahead+bind+c.s+" ?f (not) (z)"), len(ahead+bind)+c.at, c.err)
			}
		}
		for _, s := range []string{"r", "5", "\"(r)\"", "~r", "~?x", "?*x*", "<-", "not", "test", "=>", "nil"} {
			refuses(t, close(ahead+s), len(ahead), api.ErrForm)
			refuses(t, close(ahead+s+" (z)"), len(ahead), api.ErrForm)
		}
	}
}

// TestExprs: a test of not one EXPR is refused where its list stands, ahead of what is wrong in it; one that is none as expr refuses it.
func TestExprs(t *testing.T) {
	for _, ahead := range aheads() {
		for _, s := range []string{"(test)", "(test 1 2)", "(test (z) 1)", "(test 1 (z))", "(test () () ())", "(test ?f <- (r))", "(test not 1)", "(test if 1 then 2 else 3)"} {
			refuses(t, close(ahead+s), len(ahead), api.ErrForm)
			refuses(t, close(ahead+s+" (z)"), len(ahead), api.ErrForm)
		}
		for _, c := range []struct {
			s   string
			at  int
			err api.Errno
		}{
			{"()", 0, api.ErrForm}, {"~1", 0, api.ErrForm}, {"(5)", 0, api.ErrForm}, {"(z)", 0, api.ErrName}, {"(f)", 0, api.ErrArg}, {"(f 1 2)", 0, api.ErrArg}, {"(not 1)", 0, api.ErrArg}, {"(if 1)", 0, api.ErrForm},
			{"(and ?x (z))", 8, api.ErrName}, {"(f (none 1))", 3, api.ErrArg}, {"(or () (z))", 4, api.ErrForm}, {"(r)", 0, api.ErrName},
		} {
			refuses(t, close(ahead+"(test "+c.s+")"), len(ahead)+6+c.at, c.err)
			refuses(t, close(ahead+"(test "+c.s+") ?f (z)"), len(ahead)+6+c.at, c.err)
		}
	}
}

// TestOrder: of several faults the first one that stands is told; that a list has too few or too many comes behind its kids'.
func TestOrder(t *testing.T) {
	for _, c := range []struct {
		s   string
		at  int
		err api.Errno
	}{
		{"(not (r) (z))", 9, api.ErrName}, {"(not (z) (r))", 5, api.ErrName}, {"(not (r) (r) ?f)", 13, api.ErrForm}, {"(not (r) (not))", 9, api.ErrForm}, {"(not (r) (r) (test (f)))", 19, api.ErrArg},
		{"(forall (z))", 8, api.ErrName}, {"(forall (forall (r)))", 8, api.ErrForm}, {"(forall (test))", 8, api.ErrForm}, {"(forall (r)) (z)", 0, api.ErrForm}, {"(forall (and))", 8, api.ErrForm}, {"(forall ?f)", 8, api.ErrForm},
		{"(and (or (not (r) (r))) (z))", 9, api.ErrForm}, {"(and (or (not (r) (r) (z))))", 22, api.ErrName}, {"(and (exists) (not))", 5, api.ErrForm}, {"(r) (not (r) (r)) (z) ?f", 4, api.ErrForm}, {"(z) ?f (not)", 0, api.ErrName}, {"?f (z)", 0, api.ErrForm},
		{"(or (r) (exists))", 8, api.ErrForm}, {"(logical (and (r)) (test 1 2) (z))", 19, api.ErrForm}, {"(not)", 0, api.ErrForm}, {"(or (r) (or (r) (or (r) (or))))", 24, api.ErrForm},
	} {
		refuses(t, c.s, c.at, c.err)
		refuses(t, "(test ?x) "+c.s+" (z)", c.at+10, c.err)
		refuses(t, "(and (r) "+c.s+")", c.at+9, c.err)
	}
}

// wanted tells what Parse is to tell of l, by the promise's words alone: conditions, or the first fault.
func wanted(l []sexp.Node) (ces []cond.CE, wrong string) {
	for len(l) > 0 && wrong == "" {
		n, c := l[0], cond.CE{}
		l = l[1:]
		form := fmt.Sprintf("char %d: form", n.At)
		word := sexp.Head(n)
		switch {
		case n.Kind == lex.Var && len(l) > 1 && text(l[:1]) == "<-" && l[1].Kind == sexp.List:
			c, wrong = wantedPattern(l[1])
			c.Bind = n.S
			l = l[2:]
		case n.Kind == lex.Var, word == "test" && len(n.Kids) != 2:
			wrong = form
		case word == "test":
			e, err := expr.Parse(n.Kids[1], funs())
			c, wrong = ask(e), sexp.Told(err)
		case word != "" && slices.Contains(words(), word):
			c.Kind = slices.Index(words(), word)
			c.Kids, wrong = wanted(n.Kids[1:])
			count := len(c.Kids)
			if wrong == "" && (count == 0 || word == "forall" && count < 2 || word == "not" && count > 1) {
				wrong = form
			}
		default:
			c, wrong = wantedPattern(n)
		}
		ces = append(ces, c)
	}
	if wrong != "" {
		return nil, wrong
	}
	return ces, ""
}

func wantedPattern(n sexp.Node) (cond.CE, string) {
	p, err := pat.Parse(n, templates())
	return cond.CE{Kind: cond.Pat, P: p}, sexp.Told(err)
}

// rows tells all texts of so many of these parts, an opened list closed at its end or between them.
func rows(parts []string, count int, tell func(s string)) {
	var grow func(s string, open, left int)
	grow = func(s string, open, left int) {
		tell(s + times(")", open))
		if left == 0 {
			return
		}
		if open > 0 {
			grow(s+")", open-1, left-1)
		}
		for _, part := range parts {
			more := strings.Count(part, "(") - strings.Count(part, ")")
			grow(s+" "+part, open+more, left-1)
		}
	}
	grow("", 0, count)
}

// TestRows: all short texts of some few parts are answered as one who looks at the promise's words alone would.
func TestRows(t *testing.T) {
	ask := func(s string) {
		l, err := cond.Parse(read(t, s), templates(), funs())
		want, wrong := wanted(read(t, s))
		if sexp.Told(err) != wrong || !equalAll(l, want) {
			t.Fatalf("P1201: Parse(%q): %+v, %v, not %+v, %q", s, l, err, want, wrong)
		}
		if wrong != "" {
			return
		}
		nodes := cond.Nodes(l, templates())
		if !slices.EqualFunc(nodes, read(t, s), sexp.Same) {
			t.Fatalf("P1201: %q is told as %q", s, text(nodes))
		}
		// Each condition is a list of its own; the others are slots and calls.
		if size := strings.Count(s, "(") - strings.Count(s, "(a") + strings.Count(s, "(and") - strings.Count(s, "(f"); cond.Size(l) != size+strings.Count(s, "(forall") {
			t.Fatalf("P1201: Size of %q: %d", s, cond.Size(l))
		}
	}
	rows([]string{"?f", "<-", "(r)", "(q (a ?x))", "(z)", "(test (f ?x))", "(test)", "5", "(not", "(and", "(forall", "("}, 4, ask)
	rows([]string{"?f <- (r)", "(r)", "(test ?x)", "(not", "(or", "(exists", "(forall", "(logical"}, 4, ask)
	rows([]string{"?f", "<-", "(r)", "(z)", "(not", "(forall"}, 6, ask)
}

// TestNodesThatWereNotRead: a Parse of any nodes is answered, as far as the promise's words go.
func TestNodesThatWereNotRead(t *testing.T) {
	sym := func(s string) sexp.Node { return sexp.Node{Kind: api.Sym, At: 99, S: s} }
	list := func(at int, kids ...sexp.Node) sexp.Node { return sexp.Node{At: at, Kids: kids} }
	good := list(7, sym("r"))
	variable := sexp.Node{Kind: lex.Var, At: 5, S: "f"}
	for _, kind := range []int{math.MinInt, -1, sexp.List, api.Int, api.Sym, api.Str, lex.Open, lex.Close, lex.Var, lex.Glob, lex.Not, 9, math.MaxInt} {
		odd := sexp.Node{Kind: kind, At: 3, S: "not"}
		refusesNodes(t, []sexp.Node{good, odd, good}, 3, api.ErrForm)
		refusesNodes(t, []sexp.Node{list(8, sym("and"), odd)}, 3, api.ErrForm)
		odd.Kids = []sexp.Node{sym("not"), good}
		if kind != sexp.List {
			refusesNodes(t, []sexp.Node{good, odd, good}, 3, api.ErrForm)
			refusesNodes(t, []sexp.Node{variable, sym("<-"), odd}, 5, api.ErrForm)
		}
		if kind != api.Sym {
			refusesNodes(t, []sexp.Node{list(8, sexp.Node{Kind: kind, S: "not"}, good)}, 8, api.ErrForm)
			refusesNodes(t, []sexp.Node{variable, {Kind: kind, S: "<-"}, good}, 5, api.ErrForm)
		}
	}
	// One without a name could not be told from none.
	refusesNodes(t, []sexp.Node{{Kind: lex.Var, At: 4}, sym("<-"), good}, 4, api.ErrForm)
	refusesNodes(t, []sexp.Node{variable, sym(""), good}, 5, api.ErrForm)
	refusesNodes(t, []sexp.Node{list(math.MinInt, sym(""), good)}, math.MinInt, api.ErrName)
	refusesNodes(t, []sexp.Node{list(-8, sym("test"))}, -8, api.ErrForm)
	// What a leaf or a list holds beside its own fields is not told (P4).
	full := list(1, sym("not"), variable, sym("<-"), good)
	full.S, full.I = "and", 5
	full.Kids[0].Kids, full.Kids[0].I = []sexp.Node{good}, 6
	full.Kids[1].Kids, full.Kids[1].I = []sexp.Node{good, good}, 7
	full.Kids[2].Kids, full.Kids[2].I = []sexp.Node{good}, 8
	full.Kids[3].S, full.Kids[3].I = "test", 9
	asked := list(1, sym("test"), sexp.Node{Kind: lex.Var, I: 4, S: "x", Kids: []sexp.Node{good}})
	asked.S = "not"
	got, err := cond.Parse([]sexp.Node{full, asked}, templates(), funs())
	want := []cond.CE{of(cond.Not, bound("f", pattern("r"))), ask(expr.Expr{Kind: expr.Var, S: "x"})}
	if err != nil || !equalAll(got, want) {
		t.Errorf("P1201: %+v, %v", got, err)
	}
	for _, l := range [][]sexp.Node{nil, {}} {
		if got, err := cond.Parse(l, nil, nil); err != nil || len(got) != 0 {
			t.Errorf("P1201: no nodes: %+v, %v", got, err)
		}
	}
}

// TestTemplatesAndFuns: patterns and exprs are told by what is handed in.
func TestTemplatesAndFuns(t *testing.T) {
	for s, want := range map[string]string{"(r)": "char 0: name", "?f <- (r)": "char 6: name", "(not (r))": "char 5: name", "(test (f ?x))": "char 6: name", "(test (+ ?x 1))": "", "(or (test ?x))": ""} {
		for _, l := range [][]tmpl.Template{nil, {}, templates()[:2]} {
			c, err := cond.Parse(read(t, s), l, nil)
			if sexp.Told(err) != want || (len(c) > 0) != (want == "") {
				t.Errorf("P1201: %s without what it asks for: %+v, %v", s, c, err)
			}
		}
	}
	twice := []tmpl.Template{{Name: "p", Slots: []tmpl.Slot{{Name: "x"}, {Name: "a"}}}, templates()[0]}
	c, err := cond.Parse(read(t, "(and (p (a 1)))"), twice, nil)
	if err != nil || !equalAll(c, []cond.CE{of(cond.And, pattern("p", isOne(1)))}) || text(cond.Nodes(c, twice)) != "(and (p (a 1)))" {
		t.Errorf("P1201: the first template of a name: %+v, %v", c, err)
	}
	c, err = cond.Parse(read(t, "(test (f 1 2))"), nil, []expr.Sig{{Name: "f", Args: 2}, {Name: "f", Args: 1}})
	if err != nil || !equalAll(c, []cond.CE{ask(call("f", number(1), number(2)))}) {
		t.Errorf("P1201: the first function of a name: %+v, %v", c, err)
	}
}

// TestDeep: nodes and conditions that were not read may be deeper than a stack of calls goes (P1).
func TestDeep(t *testing.T) {
	const depth = 200000
	defer debug.SetMaxStack(debug.SetMaxStack(1 << 20))
	for _, ends := range []struct{ s, wrong string }{{"(r)", ""}, {"(z)", "char 0: name"}, {"?f", "char 0: form"}, {"(not)", "char 0: form"}} {
		n := read(t, ends.s)[0]
		for i := range depth {
			n = sexp.Node{At: i, Kids: []sexp.Node{{Kind: api.Sym, S: words()[cond.Not+i%4]}, n}}
		}
		l, err := cond.Parse([]sexp.Node{n}, templates(), nil)
		if sexp.Told(err) != ends.wrong {
			t.Fatalf("P1201: deep nodes: %.80s", sexp.Told(err))
		}
		if err != nil {
			continue
		}
		again, err := cond.Parse([]sexp.Node{n}, templates(), nil)
		if err != nil || cond.Size(l) != depth+1 || !cond.Same(l[0], again[0]) || l[0].Kind != cond.Not+(depth-1)%4 {
			t.Errorf("P1201: deep conditions: %d, %v", cond.Size(l), err)
		}
		nodes := cond.Nodes(l, templates())
		if len(nodes) != 1 || !sexp.Same(nodes[0], n) {
			t.Error("P1201: deep conditions are not told back")
		}
	}
	n := sexp.Node{Kind: api.Sym, S: "r"}
	for i := range depth {
		n = sexp.Node{At: i, Kids: []sexp.Node{n}}
	}
	if _, err := cond.Parse([]sexp.Node{n}, templates(), nil); sexp.Told(err) != fmt.Sprintf("char %d: form", depth-1) {
		t.Errorf("P1201: deep nodes: %.80s", sexp.Told(err))
	}
	if _, err := cond.Parse([]sexp.Node{{Kids: []sexp.Node{{Kind: api.Sym, S: "test"}, n}}}, templates(), nil); sexp.Told(err) != fmt.Sprintf("char %d: form", depth-1) {
		t.Errorf("P1201: a deep test: %.80s", sexp.Told(err))
	}
}

func TestSame(t *testing.T) {
	texts := []string{
		"(r)", "(p)", "?f <- (r)", "?g <- (r)", "(p (a 1))", "(p (a ?x))", "?f <- (p (a 1))", "(test 1)", "(test 2)", "(test ?x)", "(test (f ?x))", "?f <- (test)", "?f <- (and)",
		"(not (r))", "(and (r))", "(or (r))", "(exists (r))", "(logical (r))", "(not (p))", "(not ?f <- (r))", "(not (test 1))", "(not (not (r)))", "(and (not (r)))", "(not (and (r)))",
		"(and (r) (r))", "(or (r) (r))", "(forall (r) (r))", "(and (r) (p))", "(and (p) (r))", "(and (r) (r) (r))", "(and (and (r)) (r))", "(and (r) (and (r)))", "(and (and (r) (r)))", "(and (or (r)) (r))", "(and (or (r) (p)) (r))", "(and (or (p) (r)) (r))", "(and (or (p)) (r))",
	}
	for i, s := range texts {
		for k, u := range texts {
			// The same one stands elsewhere in its text.
			a, b := parse(t, s)[0], parse(t, " \n"+strings.ReplaceAll(u, "(", " (  "))[0]
			if cond.Same(a, b) != (i == k) || cond.Same(b, a) != (i == k) {
				t.Errorf("P1201: Same(%q, %q) is not %v", s, u, i == k)
			}
		}
	}
	a, b := of(cond.And), cond.CE{Kind: cond.And, Kids: make([]cond.CE, 0, 3)}
	if !cond.Same(a, b) || !cond.Same(b, a) || !cond.Same(cond.CE{}, cond.CE{}) {
		t.Error("P1201: Same of no list and an empty one")
	}
}

// TestSameFields: all fields count, those of others that are in it too.
func TestSameFields(t *testing.T) {
	base := cond.CE{Kind: 9, Bind: "f", P: pattern("p", isOne(0)).P, E: call("f", number(1)), Kids: []cond.CE{pattern("r")}}
	changes := []cond.CE{base, base, base, base, base, base, base, base, {}}
	changes[0].Kind, changes[1].Bind, changes[2].P.T, changes[3].P.Tests = 8, "g", "q", nil
	changes[4].E, changes[5].E.Kids, changes[6].Kids, changes[7].Kids = number(1), nil, nil, []cond.CE{bound("f", pattern("r"))}
	for i, c := range changes {
		for _, around := range []func(c cond.CE) cond.CE{
			func(c cond.CE) cond.CE { return c },
			func(c cond.CE) cond.CE { return of(cond.And, pattern("r"), of(cond.Not, c), ask(number(1))) },
		} {
			if a, b := around(base), around(c); cond.Same(a, b) || cond.Same(b, a) || !cond.Same(b, around(c)) || !cond.Same(a, around(base)) {
				t.Errorf("P1201: Same: change %d", i)
			}
		}
	}
}

func TestSize(t *testing.T) {
	for s, want := range map[string]int{
		"": 0, "(r)": 1, "?f <- (r)": 1, "(test (f (f 1)))": 1, "(p (a 1) (b 2))": 1, "(r) (r) (test 1)": 3, "(not (r))": 2, "(not ?f <- (r))": 2, "(and (r) (r))": 3, "(or (r))": 2, "(exists (r) (test 1) (r))": 4, "(forall (r) (r))": 3, "(logical (r) (logical (r)))": 4,
		"(and (r) (or (q) (r)) (exists (q (a ?x)) (test ?x))) ?g <- (r)": 9, "(not (not (not (r)))) (not (r))": 6,
	} {
		if n := cond.Size(parse(t, s)); n != want {
			t.Errorf("P1201: Size of %q: %d, not %d", s, n, want)
		}
	}
	room := []cond.CE{pattern("r"), of(cond.Not, pattern("r"))}
	if n := cond.Size(room[:1]); n != 1 {
		t.Errorf("P1201: Size counts spare room: %d", n)
	}
}

// withRoom tells l in new memory, each list with spare room that has something in it.
func withRoom(l []sexp.Node) []sexp.Node {
	spare := sexp.Node{Kind: api.Sym, At: 4, S: "spare"}
	room := make([]sexp.Node, 0, len(l)+2)
	for _, n := range l {
		n.Kids = withRoom(n.Kids)
		room = append(room, n)
	}
	return append(room, spare, spare)[:len(l)]
}

// equalRoom tells whether a and b are the same, their spare room too.
func equalRoom(a, b []sexp.Node) bool {
	return len(a) == len(b) && cap(a) == cap(b) && slices.EqualFunc(a[:cap(a)], b[:cap(b)], func(a, b sexp.Node) bool {
		return a.Kind == b.Kind && a.At == b.At && a.I == b.I && a.S == b.S && equalRoom(a.Kids, b.Kids)
	})
}

// spoil overwrites all nodes of l, their spare room too.
func spoil(l []sexp.Node) {
	for i := range l[:cap(l)] {
		spoil(l[:cap(l)][i].Kids)
		l[:cap(l)][i] = sexp.Node{Kind: 77, S: "spoilt"}
	}
}

// spoilConds overwrites all of l, its spare room too.
func spoilConds(l []cond.CE) {
	for i := range l[:cap(l)] {
		c := &l[:cap(l)][i]
		clear(c.P.Tests[:cap(c.P.Tests)])
		clear(c.E.Kids[:cap(c.E.Kids)])
		spoilConds(c.Kids)
		*c = cond.CE{Kind: 77, Bind: "spoilt"}
	}
}

// room counts the places of lists, spare room too: those of one answer, or of two, are not to share any.
type room map[any]int

func (r room) add(t *testing.T, place any) {
	t.Helper()
	if r[place]++; r[place] > 1 {
		t.Error("P1201: two lists share room")
	}
}

func (r room) nodes(t *testing.T, l []sexp.Node) {
	t.Helper()
	for i := range cap(l) {
		r.add(t, &l[:cap(l)][i])
	}
	for _, n := range l {
		r.nodes(t, n.Kids)
	}
}

func (r room) conds(t *testing.T, l []cond.CE) {
	t.Helper()
	for i := range cap(l) {
		r.add(t, &l[:cap(l)][i])
	}
	for _, c := range l {
		for i := range cap(c.P.Tests) {
			r.add(t, &c.P.Tests[:cap(c.P.Tests)][i])
		}
		r.exprs(t, c.E.Kids)
		r.conds(t, c.Kids)
	}
}

func (r room) exprs(t *testing.T, l []expr.Expr) {
	t.Helper()
	for i := range cap(l) {
		r.add(t, &l[:cap(l)][i])
	}
	for _, e := range l {
		r.exprs(t, e.Kids)
	}
}

const whole = "(logical (r) ?f <- (p (a ?x) (b ~1))) (and (or (r) (r) (r) (not (not ?g <- (r)))) (test (f (and ?x (none)))) (exists (q (a 1)))) (forall (r) (test 1) (r)) ?h <- (r)"

// TestParseTakesNothing: what is handed in stays as it is, its spare room too, and is not kept; what is answered is new (P2).
func TestParseTakesNothing(t *testing.T) {
	l, were := withRoom(read(t, whole)), withRoom(read(t, whole))
	ts, fs := append(templates(), tmpl.Template{Name: "spare"})[:7], append(funs(), expr.Sig{Name: "spare"})[:3]
	first, err := cond.Parse(l, ts, fs)
	second, again := cond.Parse(l, ts, fs)
	if err != nil || again != nil || !equalAll(first, second) {
		t.Fatalf("P1201: %v, %v", err, again)
	}
	for _, wrong := range []string{" (not)", " (forall (r))", " ?f", " (and (test (z)))"} {
		cond.Parse(append(withRoom(l), read(t, wrong)...), ts, fs)
	}
	if !equalRoom(l, were) || ts[:8][7].Name != "spare" || fs[:4][3].Name != "spare" {
		t.Error("P1201: Parse changed what it was handed")
	}
	places := room{}
	places.nodes(t, l)
	places.conds(t, first)
	places.conds(t, second)
	spoilConds(first)
	spoil(l)
	clear(ts)
	clear(fs)
	if !equalAll(second, parse(t, whole)) || text(cond.Nodes(second, templates())) != whole {
		t.Errorf("P1201: Parse kept what it was handed, or answered: %+v", second)
	}
}

// TestNodesTakesNothing: the nodes that are told are new ones, and conditions and templates stay as they are (P2).
func TestNodesTakesNothing(t *testing.T) {
	l, were := parse(t, whole), parse(t, whole)
	ts := append(templates(), tmpl.Template{Name: "spare"})[:7]
	first, second := cond.Nodes(l, ts), cond.Nodes(l, ts)
	cond.Size(l)
	places := room{}
	places.nodes(t, first)
	places.nodes(t, second)
	spoil(first)
	if !equalAll(l, were) || !cond.Same(l[0], were[0]) || ts[:8][7].Name != "spare" {
		t.Error("P1201: Nodes changed what it was handed")
	}
	spoilConds(l)
	clear(ts)
	if text(second) != whole {
		t.Errorf("P1201: Nodes kept what it was handed, or answered: %s", text(second))
	}
}

// TestParseAgain: a refused Parse changes nothing of the next one (P3, P5).
func TestParseAgain(t *testing.T) {
	for _, s := range []string{"(not)", "(and (r) (or (r) (z)))", "?f", "(test)", "(forall (r))", "(r)"} {
		cond.Parse(read(t, s), templates(), nil)
		holds(t, whole, whole, parse(t, whole)...)
	}
}

// TestAnyConditions: whatever conditions and templates are handed in are answered (P1, P8).
func TestAnyConditions(t *testing.T) {
	var l []cond.CE
	for i, kind := range []int{math.MinInt, -1, 0, cond.Pat, cond.Test, cond.Not, cond.And, cond.Or, cond.Exists, cond.Forall, cond.Logical, 9, math.MaxInt} {
		c := cond.CE{Kind: kind, Bind: []string{"", "f", "\x00\xff(\""}[i%3], P: pattern("p", isOne(i-2), isVar(i, "x")).P, E: call("", variable("\xff"))}
		l = append(l, c, cond.CE{Kind: kind})
		c.Kids = slices.Clone(l)
		l = append(l, c, of(kind, pattern("")), of(kind, of(kind)))
	}
	if want := sizeOf(l); cond.Size(l) != want {
		t.Errorf("P1201: Size of any: %d, not %d", cond.Size(l), want)
	}
	for _, ts := range [][]tmpl.Template{nil, {{}}, templates()} {
		nodes := cond.Nodes(l, ts)
		text(nodes)
		cond.Parse(nodes, ts, nil)
	}
	for i, a := range l {
		for k, b := range l {
			if cond.Same(a, b) != equal(a, b) || i == k && !cond.Same(a, b) {
				t.Errorf("P1201: Same of %+v, %+v: %t", a, b, cond.Same(a, b))
			}
		}
	}
}

// sizeOf tells what Size is to tell.
func sizeOf(l []cond.CE) int {
	size := len(l)
	for _, c := range l {
		size += sizeOf(c.Kids)
	}
	return size
}

// TestGreat: more conditions than a text can have, side by side and in one another.
func TestGreat(t *testing.T) {
	const count = 100000
	list := sexp.Node{Kids: []sexp.Node{{Kind: api.Sym, S: "or"}}}
	unit := read(t, "(not ?f <- (r)) ?g <- (p (a 1)) (test ?x)")
	for range count {
		list.Kids = append(list.Kids, unit...)
	}
	l, err := cond.Parse([]sexp.Node{list, list}, templates(), funs())
	if err != nil || len(l) != 2 || len(l[1].Kids) != 3*count || cond.Size(l) != 2+8*count || !cond.Same(l[0], l[1]) {
		t.Fatalf("P1201: great conditions: %d, %v", cond.Size(l), err)
	}
	if nodes := cond.Nodes(l, templates()); len(nodes) != 2 || !sexp.Same(nodes[1], list) {
		t.Error("P1201: great conditions are not told back")
	}
	list.Kids = append(list.Kids, sexp.Node{Kind: lex.Var, At: 9, S: "f"})
	if l, err := cond.Parse([]sexp.Node{list}, templates(), funs()); sexp.Told(err) != "char 9: form" || len(l) != 0 {
		t.Errorf("P1201: great conditions, the last one wrong: %v", err)
	}
}
