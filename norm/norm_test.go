package norm_test

import (
	"fmt"
	"math"
	"runtime/debug"
	"slices"
	"strings"
	"testing"

	"whelk/api"
	"whelk/cond"
	"whelk/expr"
	"whelk/norm"
	"whelk/pat"
	"whelk/sexp"
	"whelk/tmpl"
	"whelk/val"
)

// templates are those of all tests.
func templates() []tmpl.Template {
	var l []tmpl.Template
	for _, names := range []string{"p a b", "q a", "r", "s"} {
		parts := strings.Fields(names)
		t := tmpl.Template{Name: parts[0]}
		for _, s := range parts[1:] {
			t.Slots = append(t.Slots, tmpl.Slot{Name: s, Default: val.OfSym("nil")})
		}
		l = append(l, t)
	}
	return l
}

// parse tells the conditions of a text that is good.
func parse(t *testing.T, s string) []cond.CE {
	t.Helper()
	nodes, err := sexp.Read([]byte(s))
	if err != nil {
		t.Fatalf("Read(%.80q): %v", s, err)
	}
	l, err := cond.Parse(nodes, templates(), []expr.Sig{{Name: "f", Args: 1}})
	if err != nil {
		t.Fatalf("Parse(%.80q): %v", s, err)
	}
	return l
}

// normed tells the alternatives of a text that has some.
func normed(t *testing.T, s string) []norm.Alt {
	t.Helper()
	l, err := norm.Norm(parse(t, s))
	if err != api.OK {
		t.Fatalf("P1301: Norm(%.80q): %v", s, err)
	}
	return l
}

// Conditions and Lits.
func of(kind int, kids ...cond.CE) cond.CE { return cond.CE{Kind: kind, Kids: kids} }
func leaf(name string) cond.CE             { return cond.CE{Kind: cond.Pat, P: pat.Pattern{T: name}} }
func number(i int64) expr.Expr             { return expr.Expr{Kind: expr.Const, V: val.OfInt(i)} }
func call(s string, kids ...expr.Expr) expr.Expr {
	return expr.Expr{Kind: expr.Call, S: s, Kids: kids}
}
func ask(e expr.Expr) cond.CE { return cond.CE{Kind: cond.Test, E: e} }
func pos(name string, tests ...pat.Test) norm.Lit {
	return norm.Lit{Kind: norm.Pos, P: pat.Pattern{T: name, Tests: tests}}
}
func asked(e expr.Expr) norm.Lit     { return norm.Lit{Kind: norm.Test, E: e} }
func neg(group ...norm.Lit) norm.Lit { return norm.Lit{Kind: norm.Neg, Group: group} }
func times(s string, n int) string   { return strings.Repeat(s, n) }
func alt(lits ...norm.Lit) norm.Alt  { return norm.Alt{Lits: lits} }
func bound(name string, x norm.Lit) norm.Lit {
	x.Bind = name
	return x
}

// told tells alternatives in short: how many Lits are the Logical's, if some are, the Lits, and `|` between two.
func told(l []norm.Alt) string {
	var parts []string
	for _, a := range l {
		s := toldLits(a.Lits)
		if a.Logic != 0 {
			s = fmt.Sprintf("%d: %s", a.Logic, s)
		}
		parts = append(parts, s)
	}
	return strings.Join(parts, " | ")
}

func toldLits(l []norm.Lit) string {
	var parts []string
	for _, x := range l {
		var s string
		switch x.Kind {
		case norm.Pos:
			s = sexp.Text(pat.Node(x.P, templates()))
			if x.Bind != "" {
				s = x.Bind + "=" + s
			}
		case norm.Test:
			s = "?" + sexp.Text(expr.Node(x.E))
		case norm.Neg:
			s = "~[" + toldLits(x.Group) + "]"
		}
		parts = append(parts, s)
	}
	return strings.Join(parts, " ")
}

// equal tells whether a and b are the same in all fields; no list and an empty one are the same (P2).
func equal(a, b norm.Alt) bool { return a.Logic == b.Logic && equalLits(a.Lits, b.Lits) }

func equalAll(a, b []norm.Alt) bool { return slices.EqualFunc(a, b, equal) }

func equalLits(a, b []norm.Lit) bool {
	return slices.EqualFunc(a, b, func(a, b norm.Lit) bool {
		return a.Kind == b.Kind && a.Bind == b.Bind && a.P.T == b.P.T && slices.Equal(a.P.Tests, b.P.Tests) && equalExprs(a.E, b.E) && equalLits(a.Group, b.Group)
	})
}

func equalExprs(a, b expr.Expr) bool {
	return a.Kind == b.Kind && a.V == b.V && a.S == b.S && slices.EqualFunc(a.Kids, b.Kids, equalExprs)
}

// is asks that Norm tells want of s, in short.
func is(t *testing.T, s, want string) {
	t.Helper()
	l, err := norm.Norm(parse(t, s))
	if err != api.OK || len(l) == 0 || told(l) != want {
		t.Errorf("P1301: Norm(%.80q): %s, %v, not %s", s, told(l), err, want)
	}
}

// refuses asks that Norm tells that error of s, and nothing beside it.
func refuses(t *testing.T, s string, want api.Errno) {
	t.Helper()
	if l, err := norm.Norm(parse(t, s)); err != want || len(l) != 0 {
		t.Errorf("P1301: Norm(%.80q): %.80s, %v, not %v", s, told(l), err, want)
	}
}

// fits asks that Norm tells so many alternatives of s, the longest of that many Lits.
func fits(t *testing.T, s string, alts, lits int) {
	t.Helper()
	l, err := norm.Norm(parse(t, s))
	most := 0
	for _, a := range l {
		most = max(most, norm.Count(a.Lits))
	}
	if err != api.OK || len(l) != alts || most != lits {
		t.Errorf("P1301: Norm(%.80q): %d of %d, %v, not %d of %d", s, len(l), most, err, alts, lits)
	}
}

func TestKinds(t *testing.T) {
	for i, kind := range []int{norm.Pos, norm.Test, norm.Neg} {
		if kind != i+1 {
			t.Errorf("P1301: the kind %d is %d", i+1, kind)
		}
	}
}

func TestNorm(t *testing.T) {
	for _, c := range []struct{ s, want string }{
		{"", ""},
		{"(r)", "(r)"},
		{"?f <- (p (a 1) (b ~?x))", "f=(p (a 1) (b ~?x))"},
		{"(test (f ?x))", "?(f ?x)"},
		{"(r) (test 1) ?g <- (s) (r)", "(r) ?1 g=(s) (r)"},
		{"(and (r))", "(r)"},
		{"(and (r) (and (s) (test 1)) (and (and (r))))", "(r) (s) ?1 (r)"},
		{"(or (r))", "(r)"},
		{"(or (r) (s) ?f <- (r) (test 1))", "(r) | (s) | f=(r) | ?1"},
		{"(or (or (r) (s)) (and (s) (r)) (or (or (test 1))))", "(r) | (s) | (s) (r) | ?1"},
		{"(and (or (r) (s)) (or (s) (q)))", "(r) (s) | (r) (q) | (s) (s) | (s) (q)"},
		{"(or (r) (s)) (test 1) (or (r) (s) (q))", "(r) ?1 (r) | (r) ?1 (s) | (r) ?1 (q) | (s) ?1 (r) | (s) ?1 (s) | (s) ?1 (q)"},
		{"(or (r) (s)) (or (r) (s)) (or (q) (s))", "(r) (r) (q) | (r) (r) (s) | (r) (s) (q) | (r) (s) (s) | (s) (r) (q) | (s) (r) (s) | (s) (s) (q) | (s) (s) (s)"},
		{"(or (and (or (r) (s)) (q)) (r))", "(r) (q) | (s) (q) | (r)"},
		{"(not (r))", "~[(r)]"},
		{"(not ?f <- (q (a 1)))", "~[f=(q (a 1))]"},
		{"(not (test 1))", "~[?1]"},
		{"(not (and (r) (s)))", "~[(r) (s)]"},
		{"(not (or (r) (s)))", "~[(r)] ~[(s)]"},
		{"(not (or (and (r) (s)) (q) (r)))", "~[(r) (s)] ~[(q)] ~[(r)]"},
		{"(not (and (or (r) (s)) (or (r) (q))))", "~[(r) (r)] ~[(r) (q)] ~[(s) (r)] ~[(s) (q)]"},
		{"(not (not (r)))", "~[~[(r)]]"},
		{"(not (not (or (r) (s))))", "~[~[(r)] ~[(s)]]"},
		{"(not (and (r) (not (s))))", "~[(r) ~[(s)]]"},
		{"(s) (not (or (r) (s))) (or (r) (not (r)))", "(s) ~[(r)] ~[(s)] (r) | (s) ~[(r)] ~[(s)] ~[(r)]"},
		{"(exists (r))", "~[~[(r)]]"},
		{"(exists (r) (s) (test 1))", "~[~[(r) (s) ?1]]"},
		{"(exists (or (r) (s)))", "~[~[(r)] ~[(s)]]"},
		{"(exists (or (r) (s)) (or (q) (s)))", "~[~[(r) (q)] ~[(r) (s)] ~[(s) (q)] ~[(s) (s)]]"},
		{"(exists (exists (r)) (not (s)))", "~[~[~[~[(r)]] ~[(s)]]]"},
		{"(or (exists (r)) (s)) (r)", "~[~[(r)]] (r) | (s) (r)"},
		{"(forall (r) (s))", "~[(r) ~[(s)]]"},
		{"(forall (r) (s) (test 1) (q))", "~[(r) ~[(s) ?1 (q)]]"},
		{"(forall (or (r) (s)) (q))", "~[(r) ~[(q)]] ~[(s) ~[(q)]]"},
		{"(forall (r) (or (s) (q)))", "~[(r) ~[(s)] ~[(q)]]"},
		{"(forall (or (r) (s)) (or (q) (r)) (or (s) (test 1)))", "~[(r) ~[(q) (s)] ~[(q) ?1] ~[(r) (s)] ~[(r) ?1]] ~[(s) ~[(q) (s)] ~[(q) ?1] ~[(r) (s)] ~[(r) ?1]]"},
		{"(forall (and (r) (s)) (q))", "~[(r) (s) ~[(q)]]"},
		{"(forall (not (r)) (not (s)))", "~[~[(r)] ~[~[(s)]]]"},
		{"(forall (forall (r) (s)) (forall (s) (r)) (q))", "~[~[(r) ~[(s)]] ~[~[(s) ~[(r)]] (q)]]"},
		{"(forall (exists (r)) (exists (s)))", "~[~[~[(r)]] ~[~[~[(s)]]]]"},
		{"(or (forall (r) (s)) (q))", "~[(r) ~[(s)]] | (q)"},
	} {
		is(t, c.s, c.want)
		if c.s != "" {
			is(t, "(and "+c.s+")", c.want)
			is(t, "(and (and "+c.s+"))", c.want)
			is(t, "(or (and "+c.s+"))", c.want)
			is(t, "(or (and "+c.s+") (q))", c.want+" | (q)")
		}
	}
}

// TestLogic: a Logical is as an And, and how many Lits of each alternative are its own is told.
func TestLogic(t *testing.T) {
	for _, c := range []struct{ s, want string }{
		{"(logical (r))", "1: (r)"},
		{"(logical (r)) (s)", "1: (r) (s)"},
		{"(logical (r) (s) (test 1)) (s) (q)", "3: (r) (s) ?1 (s) (q)"},
		{"(logical (not (and (r) (s))))", "1: ~[(r) (s)]"},
		{"(logical (not (or (r) (s)))) (r)", "2: ~[(r)] ~[(s)] (r)"},
		{"(logical (or (r) (and (s) (q)))) (r)", "1: (r) (r) | 2: (s) (q) (r)"},
		{"(logical (or (r) (and (s) (q)))) (or (r) (s))", "1: (r) (r) | 1: (r) (s) | 2: (s) (q) (r) | 2: (s) (q) (s)"},
		{"(logical (or (r) (s)) (or (q) (r))) (or (r) (s))", "2: (r) (q) (r) | 2: (r) (q) (s) | 2: (r) (r) (r) | 2: (r) (r) (s) | 2: (s) (q) (r) | 2: (s) (q) (s) | 2: (s) (r) (r) | 2: (s) (r) (s)"},
		{"(logical (exists (r) (s)) (forall (r) (s)) ?f <- (r)) (or (exists (r)) (s))", "3: ~[~[(r) (s)]] ~[(r) ~[(s)]] f=(r) ~[~[(r)]] | 3: ~[~[(r) (s)]] ~[(r) ~[(s)]] f=(r) (s)"},
		{"(or (r) (s))", "(r) | (s)"},
	} {
		is(t, c.s, c.want)
	}
}

// TestFields: each Lit has what its condition has, and zero values in all other fields (P4).
func TestFields(t *testing.T) {
	one, x := pat.Test{Slot: 1, V: val.OfInt(1)}, pat.Test{Slot: 0, Not: true, Var: "x"}
	l := normed(t, "?f <- (p (b 1) (a ~?x)) (test (f ?y)) (exists ?g <- (q (a ~?x)))")
	want := []norm.Alt{alt(bound("f", pos("p", one, x)), asked(call("f", expr.Expr{Kind: expr.Var, S: "y"})), neg(neg(bound("g", pos("q", x)))))}
	if !equalAll(l, want) {
		t.Errorf("P1301: %+v, not %+v", l, want)
	}
	// No text has conditions with what their kind has not.
	full := cond.CE{Bind: "f", P: pat.Pattern{T: "p", Tests: []pat.Test{one}}, E: call("f", number(1)), Kids: []cond.CE{leaf("r"), leaf("s")}}
	r, s := pos("r"), pos("s")
	for kind, want := range map[int][]norm.Alt{
		cond.Pat:     {alt(bound("f", pos("p", one)))},
		cond.Test:    {alt(asked(call("f", number(1))))},
		cond.And:     {alt(r, s)},
		cond.Or:      {alt(r), alt(s)},
		cond.Exists:  {alt(neg(neg(r, s)))},
		cond.Forall:  {alt(neg(r, neg(s)))},
		cond.Logical: {{Lits: []norm.Lit{r, s}, Logic: 2}},
	} {
		full.Kind = kind
		if l, err := norm.Norm([]cond.CE{full}); err != api.OK || !equalAll(l, want) {
			t.Errorf("P1301: the kind %d with all fields: %+v, %v, not %+v", kind, l, err, want)
		}
	}
	full.Kind, full.Kids = cond.Not, full.Kids[:1]
	if l, err := norm.Norm([]cond.CE{full}); err != api.OK || !equalAll(l, []norm.Alt{alt(neg(r))}) {
		t.Errorf("P1301: a Not with all fields: %+v, %v", l, err)
	}
}

// TestForm: a Logical is the first condition, and in no other one; asked ahead of how long all is.
func TestForm(t *testing.T) {
	long := times("(r) ", api.MaxLits+1)
	wide := "(or " + times("(r) ", api.MaxAlts+1) + ") "
	for _, s := range []string{
		"(r) (logical (r))", "(test 1) (logical (r))", "(logical (r)) (logical (r))", "(r) (r) (r) (logical (r)) (r)", "(or (r) (s)) (logical (r))",
		"(logical (logical (r)))", "(logical (r) (logical (r)))", "(logical (or (r) (logical (r))))", "(logical (r)) (not (logical (r)))",
		"(not (logical (r)))", "(and (logical (r)))", "(or (logical (r)))", "(exists (logical (r)))", "(forall (logical (r)) (r))", "(forall (r) (logical (r)))", "(forall (r) (r) (logical (r)))",
		"(r) (not (logical (r)))", "(and (r) (or (s) (not (exists (forall (r) (r) (r) (logical (r)))))))",
		long + "(logical (r))", "(and " + long + ") (logical (r))", wide + "(logical (r))", "(logical " + long + ") (logical (r))", "(logical " + wide + ") (and (logical (r)))", wide + long + "(not (not (logical (r))))", "(and " + wide + "(logical (r)))",
	} {
		refuses(t, s, api.ErrForm)
	}
	for _, s := range []string{"(logical (r))", "(logical (r)) (not (r)) (and (r) (or (r)))", "(logical (not (exists (r))))"} {
		fits(t, s, 1, norm.Count(normed(t, s)[0].Lits))
	}
}

// either tells a text that has so many alternatives of one Lit each.
func either(count int) string { return "(or" + times(" (r)", count) + ")" }

// TestAlternatives: there are MaxAlts alternatives, of all, of any kid and so far, and no more.
func TestAlternatives(t *testing.T) {
	const most = api.MaxAlts
	four := either(4)
	for _, s := range []string{
		either(most), "(r) " + either(most), either(most) + " (r)", "(or " + either(most) + ")", "(or " + either(7) + either(9) + ")", "(or (r) " + either(5) + " (r) " + either(9) + ")", "(and " + either(most) + ")", "(logical " + either(most) + ")", "(logical (r) " + four + ")" + four, four + "(and " + four + ")", either(2) + either(8), either(2) + either(2) + either(2) + either(2), "(or " + times("(and (r) (r)) ", most) + ")", "(or (and " + four + either(3) + ") " + four + ")",
	} {
		if l, err := norm.Norm(parse(t, s)); err != api.OK || len(l) != most {
			t.Errorf("P1301: Norm(%.80q): %d, %v", s, len(l), err)
		}
	}
	wide := []string{
		either(most + 1), "(or " + either(8) + either(9) + ")", "(or " + either(most) + " (r))", "(or (r) " + either(most) + ")", "(and " + four + either(5) + ")", "(and " + either(2) + either(2) + either(2) + either(3) + ")", "(or " + times("(and (r) (r)) ", most+1) + ")", "(or (and " + four + four + ") (r))", "(and " + either(2) + either(9) + ")", either(100),
	}
	for _, s := range wide {
		refuses(t, s, api.ErrLong)
		refuses(t, "(logical "+s+")", api.ErrLong)
		refuses(t, "(r) (not (r)) "+s, api.ErrLong)
		// The whole has one alternative: that a kid has more than MaxAlts is asked of it alone.
		for _, around := range []string{"(not (X))", "(exists (X))", "(exists (r) (X))", "(forall (X) (r))", "(forall (r) (X))", "(forall (r) (r) (X) (r))", "(and (r) (not (X)))", "(or (r) (exists (X)))", "(not (not (X)))", "(logical (exists (X))) (r)"} {
			refuses(t, strings.Replace(around, "(X)", s, 1), api.ErrLong)
		}
	}
	refuses(t, four+four+either(2), api.ErrLong)
	refuses(t, "(logical "+four+")"+either(5), api.ErrLong)
	refuses(t, "(logical "+four+")"+four+either(2), api.ErrLong)
	fits(t, "(not "+either(most)+")", 1, 2*most)
	fits(t, "(exists "+either(most)+")", 1, 2*most+1)
	fits(t, "(forall (r) "+either(most)+")", 1, 2*most+2)
}

// TestLits: Count of an alternative, of a kid's and of one so far, is MaxLits at most.
func TestLits(t *testing.T) {
	const most = api.MaxLits
	row := func(n int) string { return times(" (r)", n) }
	for _, c := range []struct {
		ahead, behind string
		alts, extra   int
	}{
		{"", "", 1, 0}, {"(and", ")", 1, 0}, {"(logical", ")", 1, 0}, {"(logical (r)) (test 1)", "", 1, 2}, {"(or (and", ") (s))", 2, 0}, {"(or (r) (and", "))", 2, 0}, {"(or (r) (s))", "", 2, 1}, {"(or (r) (and (r) (s)))", "", 2, 2},
		{"(not (and", "))", 1, 1}, {"(not (or (r) (and", ")))", 1, 3}, {"(not (or (and", ") (r)))", 1, 3}, {"(not (not (and", ")))", 1, 2}, {"(not (r))", "", 1, 2}, {"(not (not (r)))", "", 1, 3},
		{"(exists", ")", 1, 2}, {"(exists (or (r) (and", ")))", 1, 4}, {"(exists (r))", "", 1, 3},
		{"(forall (and", ") (r))", 1, 3}, {"(forall (r)", ")", 1, 3}, {"(forall (r) (or (r) (and", ")))", 1, 5}, {"(forall (or (r) (and", ")) (r))", 1, 7}, {"(forall (r) (r))", "", 1, 4},
		{"(logical (and", "))", 1, 0}, {"(logical (not (and", ")))", 1, 1}, {"(logical (not (or (r) (and", ")))) (r)", 1, 4},
	} {
		n := most - c.extra
		fits(t, c.ahead+row(n)+c.behind, c.alts, most)
		fits(t, c.ahead+row(n-1)+c.behind, c.alts, most-1)
		refuses(t, c.ahead+row(n+1)+c.behind, api.ErrLong)
		refuses(t, c.ahead+row(n)+c.behind+" (s)", api.ErrLong)
		if !strings.Contains(c.ahead, "logical") {
			refuses(t, "(s) "+c.ahead+row(n)+c.behind, api.ErrLong)
			refuses(t, "(or (r) (and "+c.ahead+row(n+1)+c.behind+"))", api.ErrLong)
			fits(t, "(or (r) (and "+c.ahead+row(n)+c.behind+"))", c.alts+1, most)
		}
	}
	// One of the alternatives alone is too long.
	refuses(t, "(or (r) (and"+row(most)+")) (s)", api.ErrLong)
	refuses(t, "(or (and"+row(most)+") (r)) (s)", api.ErrLong)
	refuses(t, "(or (r) (and"+row(most+1)+") (s))", api.ErrLong)
	// Each of a kid's alternatives has all the Lits behind it.
	fits(t, "(exists (or (r) (s))"+row(17)+")", 1, 1+2*19)
	refuses(t, "(exists (or (r) (s))"+row(18)+")", api.ErrLong)
	fits(t, "(forall (or (r) (s)) (or (r) (s))"+row(7)+")", 1, most)
	refuses(t, "(forall (or (r) (s)) (or (r) (s))"+row(8)+")", api.ErrLong)
	c := leaf("r")
	for depth := range most + 2 {
		l, err := norm.Norm([]cond.CE{c})
		if ok := depth < most; ok != (err == api.OK) || ok && norm.Count(l[0].Lits) != depth+1 || !ok && (err != api.ErrLong || len(l) > 0) {
			t.Errorf("P1301: %d Nots in one another: %d, %v", depth, len(l), err)
		}
		c = of(cond.Not, c)
	}
}

// isLong tells whether these are too many alternatives, or one is too long.
func isLong(l []norm.Alt) bool {
	return len(l) > 16 || slices.ContainsFunc(l, func(a norm.Alt) bool { return countOf(a.Lits) > 40 })
}

func countOf(l []norm.Lit) int {
	count := len(l)
	for _, x := range l {
		count += countOf(x.Group)
	}
	return count
}

// negs tells a Neg of each of these alternatives.
func negs(l []norm.Alt) []norm.Lit {
	var lits []norm.Lit
	for _, a := range l {
		lits = append(lits, neg(a.Lits...))
	}
	return lits
}

// wanted tells the alternatives of c, by the promise's words alone, and false if it is too long.
func wanted(c cond.CE) (l []norm.Alt, ok bool) {
	ok = true
	switch c.Kind {
	case cond.Pat:
		l = []norm.Alt{alt(norm.Lit{Kind: norm.Pos, Bind: c.Bind, P: c.P})}
	case cond.Test:
		l = []norm.Alt{alt(asked(c.E))}
	case cond.And, cond.Logical:
		l, ok = wantedRow(c.Kids)
	case cond.Or:
		for _, kid := range c.Kids {
			more, good := wanted(kid)
			l = append(l, more...)
			ok = ok && good && !isLong(l)
		}
	case cond.Not:
		l, ok = wanted(c.Kids[0])
		l = []norm.Alt{alt(negs(l)...)}
	case cond.Exists:
		l, ok = wantedRow(c.Kids)
		l = []norm.Alt{alt(neg(negs(l)...))}
	case cond.Forall:
		first, good := wanted(c.Kids[0])
		others, fine := wantedRow(c.Kids[1:])
		ok = good && fine
		var lits []norm.Lit
		for _, a := range first {
			lits = append(lits, neg(slices.Concat(a.Lits, negs(others))...))
		}
		l = []norm.Alt{alt(lits...)}
	}
	return l, ok && !isLong(l)
}

// wantedRow tells the same of conditions one behind the other.
func wantedRow(l []cond.CE) ([]norm.Alt, bool) {
	alts := []norm.Alt{{}}
	for _, c := range l {
		more, ok := wanted(c)
		var next []norm.Alt
		for _, a := range alts {
			for _, b := range more {
				next = append(next, norm.Alt{Lits: slices.Concat(a.Lits, b.Lits), Logic: a.Logic})
			}
		}
		if alts = next; !ok || isLong(alts) {
			return nil, false
		}
		if c.Kind == cond.Logical {
			for i := range alts {
				alts[i].Logic = len(alts[i].Lits)
			}
		}
	}
	return alts, true
}

// hasLogical tells whether one of l, or of those in them, is a Logical.
func hasLogical(l []cond.CE) bool {
	return slices.ContainsFunc(l, func(c cond.CE) bool { return c.Kind == cond.Logical || hasLogical(c.Kids) })
}

// check asks that Norm tells of l what the promise's words do, and tells its error.
func check(t *testing.T, l []cond.CE) api.Errno {
	t.Helper()
	want, wrong := []norm.Alt(nil), api.OK
	if len(l) > 0 && (hasLogical(l[0].Kids) || hasLogical(l[1:])) {
		wrong = api.ErrForm
	} else if alts, ok := wantedRow(l); ok {
		want = alts
	} else {
		wrong = api.ErrLong
	}
	got, err := norm.Norm(l)
	if err != wrong || !equalAll(got, want) {
		t.Fatalf("P1301: Norm of %+v: %s, %v, not %s, %v", l, told(got), err, told(want), wrong)
	}
	return err
}

// label tells l in new memory, each condition without others in it unlike all others.
func label(l []cond.CE, count *int) []cond.CE {
	var labelled []cond.CE
	for _, c := range l {
		switch *count++; {
		case len(c.Kids) > 0:
			c.Kids = label(c.Kids, count)
		case *count%3 == 0:
			c = ask(number(int64(*count)))
		default:
			c = leaf(fmt.Sprint("t", *count))
			c.Bind = fmt.Sprint("b", *count)
		}
		labelled = append(labelled, c)
	}
	return labelled
}

// TestTrees: all conditions of few parts are answered as one who looks at the promise's words alone would.
func TestTrees(t *testing.T) {
	const most = 6
	lists, conds := [][][]cond.CE{{nil}}, [][]cond.CE{nil, {leaf("r")}}
	for size := 1; size <= most; size++ {
		var all [][]cond.CE
		for first := 1; first <= size; first++ {
			for _, c := range conds[first] {
				for _, rest := range lists[size-first] {
					all = append(all, slices.Concat([]cond.CE{c}, rest))
				}
			}
		}
		var next []cond.CE
		for _, l := range all {
			for _, kind := range []int{cond.Not, cond.And, cond.Or, cond.Exists, cond.Forall, cond.Logical} {
				if !(kind == cond.Not && len(l) > 1) && !(kind == cond.Forall && len(l) < 2) {
					next = append(next, of(kind, l...))
				}
			}
		}
		lists, conds = append(lists, all), append(conds, next)
	}
	counts := map[api.Errno]int{}
	for _, all := range lists {
		for _, l := range all {
			count := 0
			counts[check(t, label(l, &count))]++
		}
	}
	if counts[api.OK] < 1000 || counts[api.ErrForm] < 1000 {
		t.Errorf("P1301: %v", counts)
	}
}

// TestGreaterTrees: so are greater ones, of which some are too long.
func TestGreaterTrees(t *testing.T) {
	state := uint32(1)
	draw := func(n int) int {
		state = state*1664525 + 1013904223
		return int(state>>16) % n
	}
	var grow func(depth int) cond.CE
	row := func(count, depth int) []cond.CE {
		var l []cond.CE
		for range count {
			l = append(l, grow(depth-1))
		}
		return l
	}
	grow = func(depth int) cond.CE {
		kind := []int{cond.Pat, cond.And, cond.And, cond.Or, cond.Or, cond.Not, cond.Exists, cond.Forall}[draw(8)]
		switch {
		case depth == 0 || kind == cond.Pat:
			return leaf("r")
		case kind == cond.Not:
			return of(kind, row(1, depth)...)
		case kind == cond.Forall:
			return of(kind, row(2+draw(2), depth)...)
		}
		return of(kind, row(1+draw(4), depth)...)
	}
	counts := map[api.Errno]int{}
	for range 30000 {
		l := row(1+draw(4), 1+draw(4))
		if draw(4) == 0 {
			l[0] = of(cond.Logical, l[0])
		}
		count := 0
		counts[check(t, label(l, &count))]++
	}
	if counts[api.OK] < 3000 || counts[api.ErrLong] < 3000 {
		t.Errorf("P1301: %v", counts)
	}
}

// TestNoKids: conditions that no text has, without others in them, are answered by the promise's words too: an Or without kids has no alternatives.
func TestNoKids(t *testing.T) {
	none, nothing, r, many := of(cond.Or), of(cond.And), leaf("r"), of(cond.And, slices.Repeat([]cond.CE{leaf("r")}, api.MaxLits)...)
	for _, l := range [][]cond.CE{
		{none}, {nothing}, {none, r}, {r, none}, {nothing, r}, {r, nothing}, {of(cond.Or, none, r)}, {of(cond.Or, r, none)}, {of(cond.Or, nothing, r)}, {of(cond.Not, none)}, {of(cond.Not, nothing)}, {of(cond.Not, of(cond.Not, none))}, {of(cond.Exists)}, {of(cond.Exists, none)}, {of(cond.Exists, nothing)}, {of(cond.Exists, r, none)},
		{of(cond.Forall, r)}, {of(cond.Forall, none, r)}, {of(cond.Forall, r, none)}, {of(cond.Forall, nothing, r)}, {of(cond.Forall, none, none)}, {of(cond.Logical)}, {of(cond.Logical), r}, {of(cond.Logical, none), r}, {of(cond.Logical, nothing), r}, {of(cond.Logical), of(cond.Logical)}, {none, of(cond.Logical)}, {none, of(cond.Not, of(cond.Logical))},
		// What fits not is refused, even if nothing is left of it.
		{none, many}, {none, many, r}, {none, of(cond.Not, many)}, {many, r, none}, {none, of(cond.Or, slices.Repeat([]cond.CE{r}, api.MaxAlts+1)...)}, {of(cond.Forall, none, many)}, {of(cond.Forall, none, many, r)}, {of(cond.Forall, none, of(cond.Or, many, many))}, {of(cond.Not, of(cond.And, none, of(cond.Exists, many)))}, {none, of(cond.Exists, many)}, {of(cond.Or, of(cond.And, none, many, r), r)},
	} {
		check(t, l)
		check(t, []cond.CE{of(cond.Not, of(cond.And, l...))})
		check(t, []cond.CE{r, of(cond.Or, of(cond.And, l...), r), r})
	}
}

func TestSame(t *testing.T) {
	texts := []string{
		"", "(r)", "(p)", "?f <- (r)", "?g <- (r)", "(p (a 1))", "(p (a 2))", "(p (a ~1))", "(p (a ?x))", "(p (a 1) (b 1))", "(p (b 1) (a 1))", "(test 1)", "(test 2)", "(test ?x)", "(test (f ?x))", "(r) (r)", "(r) (p)", "(p) (r)", "(r) (test 1)", "(test 1) (r)", "(r) (r) (r)",
		"(logical (r))", "(logical (r)) (r)", "(logical (r) (r))", "(not (r))", "(not (p))", "(not ?f <- (r))", "(not (test 1))", "(not (and (r) (r)))", "(not (and (r) (p)))", "(not (and (p) (r)))", "(not (or (r) (p)))", "(not (or (p) (r)))", "(logical (not (r)))", "(exists (r))", "(exists (p))", "(exists (r) (r))", "(exists (or (r) (p)))", "(not (r)) (r)", "(r) (not (r))", "(not (and (r) (not (r))))", "(not (and (not (r)) (r)))", "(forall (r) (p))", "(forall (p) (r))",
	}
	for i, s := range texts {
		for k, u := range texts {
			a, b := normed(t, s)[0], normed(t, u)[0]
			if norm.Same(a, b) != (i == k) {
				t.Errorf("P1301: Same(%q, %q) is not %v", s, u, i == k)
			}
		}
	}
	for _, s := range []string{"(not (not (and (r) (s))))", "(exists (and (and (r)) (s)))"} {
		if !norm.Same(normed(t, s)[0], normed(t, "(exists (r) (s))")[0]) {
			t.Errorf("P1301: Same(%q)", s)
		}
	}
	empty := norm.Alt{Lits: []norm.Lit{{Kind: norm.Neg, Group: make([]norm.Lit, 0, 2), P: pat.Pattern{Tests: []pat.Test{}}, E: expr.Expr{Kids: []expr.Expr{}}}}}
	if !norm.Same(empty, alt(neg())) || !norm.Same(alt(neg()), empty) || !norm.Same(norm.Alt{}, norm.Alt{Lits: []norm.Lit{}}) {
		t.Error("P1301: Same of no list and an empty one")
	}
}

// TestSameFields: all fields count, those of Groups too.
func TestSameFields(t *testing.T) {
	base := norm.Lit{Kind: 9, Bind: "f", P: pos("p", pat.Test{Slot: 1}).P, E: call("f", number(1)), Group: []norm.Lit{pos("r")}}
	changes := []norm.Lit{base, base, base, base, base, base, base, base, base, {}}
	changes[0].Kind, changes[1].Bind, changes[2].P.T, changes[3].P.Tests = 8, "g", "q", nil
	changes[4].E, changes[5].E.Kids, changes[6].Group, changes[7].Group, changes[8].Group = number(1), nil, nil, []norm.Lit{bound("f", pos("r"))}, []norm.Lit{pos("r"), pos("r")}
	for i, c := range changes {
		for _, around := range []func(x norm.Lit) norm.Alt{
			func(x norm.Lit) norm.Alt { return alt(x) },
			func(x norm.Lit) norm.Alt { return alt(pos("r"), neg(pos("s"), neg(x)), asked(number(1))) },
		} {
			if a, b := around(base), around(c); norm.Same(a, b) || norm.Same(b, a) || !norm.Same(b, around(c)) || !norm.Same(a, around(base)) {
				t.Errorf("P1301: Same: change %d", i)
			}
		}
	}
	a, b := alt(pos("r"), pos("r")), alt(pos("r"), pos("r"))
	for i := range 3 {
		for k := range 3 {
			if a.Logic, b.Logic = i, k; norm.Same(a, b) != (i == k) {
				t.Errorf("P1301: Same of Logic %d and %d", i, k)
			}
		}
	}
}

func TestCounts(t *testing.T) {
	for _, c := range []struct {
		s           string
		count, spec int
		patterns    string
	}{
		{"", 0, 0, ""},
		{"(r)", 1, 1, "(r)"},
		{"?f <- (r)", 1, 1, "(r)"},
		{"(p (a 1))", 1, 2, "(p (a 1))"},
		{"?f <- (p (a ~1) (b ?x))", 1, 3, "(p (a ~1) (b ?x))"},
		{"(test 1)", 1, 1, ""},
		{"(test (f (f ?x)))", 1, 1, ""},
		{"(p (a 1)) (test 1) (q (a ?x)) (r)", 4, 6, "(p (a 1)) (q (a ?x)) (r)"},
		{"(logical (p (a 1)) (r)) (s)", 3, 4, "(p (a 1)) (r) (s)"},
		{"(not (r))", 2, 2, "(r)"},
		{"(not (test 1))", 2, 2, ""},
		{"(not (not (q (a 1))))", 3, 4, "(q (a 1))"},
		{"(exists (r) (p (a 1) (b 2)))", 4, 6, "(r) (p (a 1) (b 2))"},
		{"(forall (q (a ?x)) (or (s) (p (a ?x))) (test 1))", 8, 10, "(q (a ?x)) (s) (p (a ?x))"},
		{"(r) (not (and (s) (not (and (q (a 1)) (not (r)) (s))) (p))) (q)", 10, 11, "(r) (s) (q (a 1)) (r) (s) (p) (q)"},
		{"(not (or (r) (s) (and (p) (q)))) (r) (r)", 9, 9, "(r) (s) (p) (q) (r) (r)"},
	} {
		l := normed(t, c.s)[0].Lits
		var parts []string
		for _, p := range norm.Patterns(l) {
			parts = append(parts, sexp.Text(pat.Node(p, templates())))
		}
		if text := strings.Join(parts, " "); norm.Count(l) != c.count || norm.Spec(l) != c.spec || text != c.patterns {
			t.Errorf("P1301: %q: Count %d, Spec %d, Patterns %s, not %d, %d, %s", c.s, norm.Count(l), norm.Spec(l), text, c.count, c.spec, c.patterns)
		}
	}
	spare := []norm.Lit{pos("r"), neg(pos("s"))}
	for _, l := range [][]norm.Lit{nil, {}, spare[:0]} {
		if norm.Count(l) != 0 || norm.Spec(l) != 0 || len(norm.Patterns(l)) != 0 {
			t.Errorf("P1301: no Lits: %d, %d, %+v", norm.Count(l), norm.Spec(l), norm.Patterns(l))
		}
	}
	if norm.Count(spare[:1]) != 1 || norm.Spec(spare[:1]) != 1 || len(norm.Patterns(spare[:1])) != 1 {
		t.Error("P1301: spare room is counted")
	}
}

// TestDeep: conditions and Lits that were not read may be deeper than a stack of calls goes (P1).
func TestDeep(t *testing.T) {
	const depth = 200000
	defer debug.SetMaxStack(debug.SetMaxStack(1 << 20))
	in := func(c cond.CE, kinds ...int) cond.CE {
		for i := range depth {
			c = of(kinds[i%len(kinds)], c)
		}
		return c
	}
	wide := func(n int) cond.CE {
		return of(cond.Or, slices.Repeat([]cond.CE{of(cond.And, leaf("r"), leaf("s"))}, n)...)
	}
	for i, c := range []struct {
		c           cond.CE
		err         api.Errno
		alts, logic int
	}{
		{in(leaf("r"), cond.And), api.OK, 1, 0}, {in(leaf("r"), cond.Or, cond.And), api.OK, 1, 0}, {in(wide(16), cond.And), api.OK, 16, 0}, {in(wide(16), cond.Or), api.OK, 16, 0}, {of(cond.Logical, in(leaf("r"), cond.And, cond.Or)), api.OK, 1, 1},
		{in(wide(17), cond.And, cond.Or), api.ErrLong, 0, 0}, {in(leaf("r"), cond.Not), api.ErrLong, 0, 0}, {in(leaf("r"), cond.Exists), api.ErrLong, 0, 0}, {in(leaf("r"), cond.And, cond.Not), api.ErrLong, 0, 0}, {in(leaf("r"), cond.Forall), api.ErrLong, 0, 0}, {in(of(cond.Logical, leaf("r")), cond.And, cond.Not), api.ErrForm, 0, 0}, {of(cond.Logical, in(of(cond.Logical, leaf("r")), cond.And)), api.ErrForm, 0, 0},
	} {
		l, err := norm.Norm([]cond.CE{c.c})
		if err != c.err || len(l) != c.alts || len(l) > 0 && l[0].Logic != c.logic {
			t.Errorf("P1301: deep conditions %d: %d, %v", i, len(l), err)
		}
	}
	forall := leaf("r")
	for range depth {
		forall = of(cond.Forall, leaf("r"), forall)
	}
	if l, err := norm.Norm([]cond.CE{forall}); err != api.ErrLong || len(l) != 0 {
		t.Errorf("P1301: deep Foralls: %d, %v", len(l), err)
	}
	e := number(1)
	for range depth {
		e = call("f", e)
	}
	l, err := norm.Norm([]cond.CE{ask(e), of(cond.Or, ask(e), of(cond.Not, ask(e)))})
	if err != api.OK || len(l) != 2 || !expr.Same(l[1].Lits[1].Group[0].E, e) || !norm.Same(l[0], alt(asked(e), asked(e))) {
		t.Errorf("P1301: deep Exprs: %d, %v", len(l), err)
	}
	x, y := pos("p", pat.Test{}), pos("q")
	for range depth {
		x, y = neg(pos("r"), x, pos("s")), neg(pos("r"), y, pos("s"))
	}
	lits := []norm.Lit{x}
	if count, spec := norm.Count(lits), norm.Spec(lits); count != 3*depth+1 || spec != 3*depth+2 {
		t.Errorf("P1301: deep Lits: %d, %d", count, spec)
	}
	patterns := norm.Patterns(lits)
	if len(patterns) != 2*depth+1 || patterns[depth-1].T != "r" || patterns[depth].T != "p" || patterns[depth+1].T != "s" {
		t.Errorf("P1301: deep Lits: %d", len(patterns))
	}
	if !norm.Same(alt(x), alt(x)) || norm.Same(alt(x), alt(y)) {
		t.Error("P1301: Same of deep Lits")
	}
}

// withRoom tells l in new memory, each list with spare room that has something in it.
func withRoom(l []cond.CE) []cond.CE {
	room := make([]cond.CE, 0, len(l)+2)
	for _, c := range l {
		c.P.Tests = append(slices.Clone(c.P.Tests), pat.Test{Var: "spare"})[:len(c.P.Tests)]
		c.E.Kids = exprsWithRoom(c.E.Kids)
		c.Kids = withRoom(c.Kids)
		room = append(room, c)
	}
	return append(room, leaf("spare"), leaf("spare"))[:len(l)]
}

func exprsWithRoom(l []expr.Expr) []expr.Expr {
	room := make([]expr.Expr, 0, len(l)+2)
	for _, e := range l {
		e.Kids = exprsWithRoom(e.Kids)
		room = append(room, e)
	}
	return append(room, number(7), number(8))[:len(l)]
}

// equalRoom tells whether a and b are the same, their spare room too.
func equalRoom(a, b []cond.CE) bool {
	return len(a) == len(b) && slices.EqualFunc(a[:cap(a)], b[:cap(b)], func(a, b cond.CE) bool {
		return a.Kind == b.Kind && a.Bind == b.Bind && a.P.T == b.P.T && slices.Equal(a.P.Tests[:cap(a.P.Tests)], b.P.Tests[:cap(b.P.Tests)]) && equalExprs(a.E, b.E) && equalExprRoom(a.E.Kids, b.E.Kids) && equalRoom(a.Kids, b.Kids)
	})
}

func equalExprRoom(a, b []expr.Expr) bool {
	return len(a) == len(b) && slices.EqualFunc(a[:cap(a)], b[:cap(b)], func(a, b expr.Expr) bool {
		return a.Kind == b.Kind && a.V == b.V && a.S == b.S && equalExprRoom(a.Kids, b.Kids)
	})
}

// spoil overwrites all of l, its spare room too.
func spoil(l []cond.CE) {
	for i := range l[:cap(l)] {
		c := &l[:cap(l)][i]
		clear(c.P.Tests[:cap(c.P.Tests)])
		spoilExprs(c.E.Kids)
		spoil(c.Kids)
		*c = of(77)
	}
}

func spoilExprs(l []expr.Expr) {
	for i := range l[:cap(l)] {
		spoilExprs(l[:cap(l)][i].Kids)
		l[:cap(l)][i] = expr.Expr{Kind: 77}
	}
}

func spoilLits(l []norm.Lit) {
	for i := range l[:cap(l)] {
		x := &l[:cap(l)][i]
		clear(x.P.Tests[:cap(x.P.Tests)])
		spoilExprs(x.E.Kids)
		spoilLits(x.Group)
		*x = norm.Lit{Kind: 77}
	}
}

// places counts the places of lists, spare room too: those of one answer, or of two, are not to share any.
type places map[any]int

// addAll adds the places of l.
func addAll[E any](t *testing.T, p places, l []E) {
	t.Helper()
	for i := range cap(l) {
		place := &l[:cap(l)][i]
		if p[place]++; p[place] > 1 {
			t.Errorf("P1301: two lists share a %T", *place)
		}
	}
}

func (p places) exprs(t *testing.T, l []expr.Expr) {
	t.Helper()
	addAll(t, p, l)
	for _, e := range l {
		p.exprs(t, e.Kids)
	}
}

func (p places) conds(t *testing.T, l []cond.CE) {
	t.Helper()
	addAll(t, p, l)
	for _, c := range l {
		addAll(t, p, c.P.Tests)
		p.exprs(t, c.E.Kids)
		p.conds(t, c.Kids)
	}
}

func (p places) alts(t *testing.T, l []norm.Alt) {
	t.Helper()
	addAll(t, p, l)
	for _, a := range l {
		p.lits(t, a.Lits)
	}
}

func (p places) lits(t *testing.T, l []norm.Lit) {
	t.Helper()
	addAll(t, p, l)
	for _, x := range l {
		p.patterns(t, []pat.Pattern{x.P})
		p.exprs(t, x.E.Kids)
		p.lits(t, x.Group)
	}
}

func (p places) patterns(t *testing.T, l []pat.Pattern) {
	t.Helper()
	for _, x := range l {
		addAll(t, p, x.Tests)
	}
}

const whole = "(logical (or (r) ?f <- (p (a ?x) (b ~1)))) (and (or (p (a 2)) (test (f (and ?x (f 1))))) (q (a 1)) (test (f (f ?x)))) (not (or (q (a ~2)) (not (test (f 2))))) (forall (or (p (b 1)) (r)) (or (q (a ?y)) (r)) (test (f (f ?y))))"

// TestNormTakesNothing: what is handed in stays as it is, its spare room too, and is not kept; what is answered is new, each list of its own (P2).
func TestNormTakesNothing(t *testing.T) {
	l, were := withRoom(parse(t, whole)), withRoom(parse(t, whole))
	first, err := norm.Norm(l)
	second, again := norm.Norm(l)
	if err != api.OK || again != api.OK || len(first) != 4 || !equalAll(first, second) {
		t.Fatalf("P1301: %v, %v", err, again)
	}
	for _, wrong := range []string{"(logical (r))", either(17), "(not " + either(17) + ")"} {
		if _, err := norm.Norm(slices.Concat(l, parse(t, wrong))); err == api.OK {
			t.Errorf("P1301: %.40s is not refused", wrong)
		}
	}
	if !equalRoom(l, were) {
		t.Error("P1301: Norm changed what it was handed")
	}
	p := places{}
	p.conds(t, l)
	p.alts(t, first)
	p.alts(t, second)
	for _, a := range first[:cap(first)] {
		spoilLits(a.Lits)
	}
	clear(first[:cap(first)])
	spoil(l)
	if !equalAll(second, normed(t, whole)) {
		t.Errorf("P1301: Norm kept what it was handed, or answered: %s", told(second))
	}
}

// TestLitsStay: what Lits are asked changes none of them, and Patterns are new (P2).
func TestLitsStay(t *testing.T) {
	a, was := normed(t, whole)[1], normed(t, whole)[1]
	first, second := norm.Patterns(a.Lits), norm.Patterns(a.Lits)
	norm.Count(a.Lits)
	norm.Spec(a.Lits)
	if !norm.Same(a, was) || !equal(a, was) {
		t.Error("P1301: Lits were changed")
	}
	p := places{}
	p.lits(t, a.Lits)
	addAll(t, p, first)
	addAll(t, p, second)
	p.patterns(t, first)
	p.patterns(t, second)
	for _, x := range first {
		clear(x.Tests[:cap(x.Tests)])
	}
	clear(first[:cap(first)])
	spoilLits(a.Lits)
	if !slices.EqualFunc(second, norm.Patterns(was.Lits), pat.Same) || len(second) == 0 {
		t.Errorf("P1301: Patterns kept what it was handed, or answered: %+v", second)
	}
}

// TestNormAgain: a refused Norm changes nothing of the next one (P3, P5).
func TestNormAgain(t *testing.T) {
	want := normed(t, whole)
	for _, s := range []string{"(r) (logical (r))", either(17), "(and " + times("(r) ", 41) + ")", "(logical (or (r) (not (or (r) (logical (r))))))", "(r)"} {
		norm.Norm(parse(t, s))
		if l := normed(t, whole); !equalAll(l, want) {
			t.Errorf("P1301: after %.40s: %s", s, told(l))
		}
	}
}

// TestAny: whatever conditions and Lits are handed in are answered (P1, P8).
func TestAny(t *testing.T) {
	var l []cond.CE
	var lits []norm.Lit
	for i, kind := range []int{math.MinInt, -1, 0, 1, 2, 3, 4, 5, 6, 7, 8, 9, math.MaxInt} {
		c := cond.CE{Kind: kind, Bind: []string{"", "f", "\x00\xff(\""}[i%3], P: pos("", pat.Test{Slot: -i}, pat.Test{Slot: i, Var: "\xff"}).P, E: call("", number(1))}
		l = append(l, c, cond.CE{Kind: kind})
		x := norm.Lit{Kind: kind, Bind: c.Bind, P: c.P, E: c.E}
		lits = append(lits, x, norm.Lit{Kind: kind})
		if i%4 == 3 {
			c.Kids, x.Group = slices.Clone(l[:3]), slices.Clone(lits)
			l, lits = append(l, c, of(kind, of(kind))), append(lits, x, neg(x))
		}
	}
	for i, c := range l {
		for _, kind := range []int{math.MinInt, 0, 1, 2, 3, 4, 5, 6, 7, 8, 9} {
			for _, row := range [][]cond.CE{{of(kind, c)}, {of(kind, l[:i]...)}, {of(kind), c}, {c, of(kind)}, {of(kind, c, c)}} {
				alts, err := norm.Norm(row)
				if err != api.OK && err != api.ErrForm && err != api.ErrLong || err != api.OK && len(alts) > 0 || isLong(alts) {
					t.Errorf("P1301: any conditions: %d, %v", len(alts), err)
				}
			}
		}
	}
	if norm.Count(lits) != countOf(lits) {
		t.Errorf("P1301: any Lits: %d, not %d", norm.Count(lits), countOf(lits))
	}
	norm.Spec(lits)
	norm.Patterns(lits)
	for _, a := range lits {
		for _, b := range lits {
			for _, logic := range []int{math.MinInt, -1, 0, 1} {
				c, d := norm.Alt{Lits: []norm.Lit{a, b}, Logic: logic}, norm.Alt{Lits: []norm.Lit{b, a}, Logic: logic}
				if norm.Same(c, d) != equal(c, d) || !norm.Same(c, c) {
					t.Errorf("P1301: Same of %+v, %+v", c, d)
				}
			}
		}
	}
}

// TestGreat: more conditions than a text can have.
func TestGreat(t *testing.T) {
	const count = 300000
	great := func(kind int, kid cond.CE) cond.CE { return of(kind, slices.Repeat([]cond.CE{kid}, count)...) }
	two := of(cond.Or, leaf("r"), leaf("s"))
	for i, c := range []struct {
		l    []cond.CE
		err  api.Errno
		alts int
	}{
		{[]cond.CE{great(cond.And, leaf("r"))}, api.ErrLong, 0}, {[]cond.CE{great(cond.Or, leaf("r"))}, api.ErrLong, 0}, {[]cond.CE{great(cond.And, two)}, api.ErrLong, 0}, {[]cond.CE{of(cond.Not, great(cond.And, two))}, api.ErrLong, 0}, {[]cond.CE{great(cond.Exists, two)}, api.ErrLong, 0}, {[]cond.CE{great(cond.Forall, two)}, api.ErrLong, 0},
		{[]cond.CE{great(cond.And, of(cond.And))}, api.OK, 1}, {[]cond.CE{great(cond.Or, of(cond.Or))}, api.OK, 0}, {[]cond.CE{great(cond.And, of(cond.Or))}, api.OK, 0}, {[]cond.CE{two, great(cond.And, of(cond.And)), two, leaf("q")}, api.OK, 4},
		{append(slices.Repeat([]cond.CE{two}, count), of(cond.Logical, two)), api.ErrForm, 0}, {slices.Repeat([]cond.CE{two}, count), api.ErrLong, 0},
	} {
		if l, err := norm.Norm(c.l); err != c.err || len(l) != c.alts {
			t.Errorf("P1301: great conditions %d: %d, %v", i, len(l), err)
		}
	}
	lits := slices.Repeat([]norm.Lit{pos("r"), neg(pos("p", pat.Test{}), asked(number(1)))}, count)
	if norm.Count(lits) != 4*count || norm.Spec(lits) != 5*count || len(norm.Patterns(lits)) != 2*count || !norm.Same(alt(lits...), alt(slices.Clone(lits)...)) {
		t.Errorf("P1301: great Lits: %d, %d, %d", norm.Count(lits), norm.Spec(lits), len(norm.Patterns(lits)))
	}
}
