package expr_test

import (
	"errors"
	"fmt"
	"math"
	"runtime/debug"
	"slices"
	"strings"
	"testing"

	"whelk/api"
	"whelk/built"
	"whelk/expr"
	"whelk/lex"
	"whelk/sexp"
	"whelk/val"
)

// Exprs, as Parse is to tell them.
func number(i int64) expr.Expr    { return expr.Expr{Kind: expr.Const, V: val.OfInt(i)} }
func symbol(s string) expr.Expr   { return expr.Expr{Kind: expr.Const, V: val.OfSym(s)} }
func text(s string) expr.Expr     { return expr.Expr{Kind: expr.Const, V: val.OfStr(s)} }
func variable(s string) expr.Expr { return expr.Expr{Kind: expr.Var, S: s} }
func global(s string) expr.Expr   { return expr.Expr{Kind: expr.Glob, S: s} }
func times(s string, n int) string {
	return strings.Repeat(s, n)
}
func call(s string, kids ...expr.Expr) expr.Expr {
	return expr.Expr{Kind: expr.Call, S: s, Kids: kids}
}
func form(kind int, kids ...expr.Expr) expr.Expr {
	return expr.Expr{Kind: kind, Kids: kids}
}

// someFuns are functions of several counts of args, two of them with the name of something built in, one there twice.
func someFuns() []expr.Sig {
	return []expr.Sig{{Name: "none"}, {Name: "one", Args: 1}, {Name: "f", Args: 2}, {Name: "abs", Args: 0}, {Name: "+", Args: 3}, {Name: "f", Args: 1}}
}

// read tells the one node of a text.
func read(t *testing.T, s string) sexp.Node {
	t.Helper()
	l, err := sexp.Read([]byte(s))
	if err != nil || len(l) != 1 {
		t.Fatalf("Read(%.80q): %d nodes, %v", s, len(l), err)
	}
	return l[0]
}

// equal tells whether a and b are the same in all fields; no list and an empty one are the same (P2).
func equal(a, b expr.Expr) bool {
	return a.Kind == b.Kind && a.V == b.V && a.S == b.S && slices.EqualFunc(a.Kids, b.Kids, equal)
}

// equalNodes tells whether a and b are the same in all fields, At too.
func equalNodes(a, b sexp.Node) bool {
	return a.Kind == b.Kind && a.At == b.At && a.I == b.I && a.S == b.S && slices.EqualFunc(a.Kids, b.Kids, equalNodes)
}

// holds asks that Parse tells want of s, and Node and Parse tell s and want back.
func holds(t *testing.T, s string, funs []expr.Sig, want expr.Expr) {
	t.Helper()
	e, err := expr.Parse(read(t, s), funs)
	if err != nil || !equal(e, want) {
		t.Errorf("P701: Parse(%.80q): %+v, %v, not %+v", s, e, err, want)
		return
	}
	n := expr.Node(e)
	if sexp.Text(n) != sexp.Text(read(t, s)) || !sexp.Same(n, read(t, s)) || !placeless(n) {
		t.Errorf("P701: Node of %.80q: %+v", s, n)
	}
	if again, err := expr.Parse(n, funs); err != nil || !expr.Same(again, e) || !equal(again, e) {
		t.Errorf("P701: %.80q there and back: %+v, %v", s, again, err)
	}
}

// placeless tells whether n and all in it have At 0.
func placeless(n sexp.Node) bool {
	return n.At == 0 && !slices.ContainsFunc(n.Kids, func(kid sexp.Node) bool { return !placeless(kid) })
}

// refuses asks that Parse tells this error of s, as one Fault, and nothing beside it.
func refuses(t *testing.T, s string, funs []expr.Sig, at int, want api.Errno) {
	t.Helper()
	refusesNode(t, read(t, s), funs, at, want)
}

func refusesNode(t *testing.T, n sexp.Node, funs []expr.Sig, at int, want api.Errno) {
	t.Helper()
	e, err := expr.Parse(n, funs)
	var f *api.Fault
	var number api.Errno
	if !equal(e, expr.Expr{}) || !errors.As(err, &f) || !errors.As(err, &number) {
		t.Errorf("P701: Parse(%.80q): %+v, %v, not char %d: %v", sexp.Text(n), e, err, at, want)
		return
	}
	if *f != (api.Fault{Part: "char", At: at, Err: want}) || number != want || !errors.Is(err, want) {
		t.Errorf("P701: Parse(%.80q): %v, not char %d: %v", sexp.Text(n), err, at, want)
	}
}

func TestKinds(t *testing.T) {
	if !slices.Equal([]int{expr.Const, expr.Var, expr.Glob, expr.Call, expr.If, expr.And, expr.Or}, []int{1, 2, 3, 4, 5, 6, 7}) {
		t.Error("P701: the numbers of the kinds")
	}
}

// TestTokens: what is no list; words are symbols where no list begins with them.
func TestTokens(t *testing.T) {
	for _, c := range []struct {
		s string
		e expr.Expr
	}{
		{"0", number(0)}, {"-7", number(-7)}, {"+07", number(7)}, {"9223372036854775807", number(math.MaxInt64)}, {"-9223372036854775808", number(math.MinInt64)},
		{"a", symbol("a")}, {"TRUE", symbol("TRUE")}, {"if", symbol("if")}, {"then", symbol("then")}, {"and", symbol("and")}, {"+", symbol("+")}, {"f", symbol("f")}, {times("x", api.MaxName), symbol(times("x", api.MaxName))},
		{`""`, text("")}, {`"a b"`, text("a b")}, {`"7"`, text("7")}, {`"(if"`, text("(if")}, {`"a\"\\"`, text(`a"\`)}, {`"` + times("x", 1000) + `"`, text(times("x", 1000))},
		{"?x", variable("x")}, {"?then", variable("then")}, {"?*x*", global("x")}, {"?*if*", global("if")},
	} {
		holds(t, c.s, nil, c.e)
		holds(t, "  "+c.s+" ", someFuns(), c.e)
	}
}

func TestForms(t *testing.T) {
	for _, c := range []struct {
		s string
		e expr.Expr
	}{
		{"(if a then 1 else \"s\")", form(expr.If, symbol("a"), number(1), text("s"))},
		{"(if ?x then ?y else ?*z*)", form(expr.If, variable("x"), variable("y"), global("z"))},
		{"(if then then then else else)", form(expr.If, symbol("then"), symbol("then"), symbol("else"))},
		{"(if if then else else if)", form(expr.If, symbol("if"), symbol("else"), symbol("if"))},
		{"(if (if 1 then 2 else 3) then (and) else (or))", form(expr.If, form(expr.If, number(1), number(2), number(3)), form(expr.And), form(expr.Or))},
		{"(and)", form(expr.And)}, {"(or)", form(expr.Or)}, {"(and ?x)", form(expr.And, variable("x"))}, {"(or 1)", form(expr.Or, number(1))},
		{"(and a b c d)", form(expr.And, symbol("a"), symbol("b"), symbol("c"), symbol("d"))},
		{"(or (and 1 2) (or) then)", form(expr.Or, form(expr.And, number(1), number(2)), form(expr.Or), symbol("then"))},
		{"(str-cat)", call("str-cat")}, {"(* ?x ?x)", call("*", variable("x"), variable("x"))},
		{"(- (- 1) (div ?x 2))", call("-", call("-", number(1)), call("div", variable("x"), number(2)))},
		{"(none)", call("none")}, {"(one (none))", call("one", call("none"))}, {"(f ?x \"s\")", call("f", variable("x"), text("s"))},
		{"(f (f 1 2) (one a))", call("f", call("f", number(1), number(2)), call("one", symbol("a")))},
	} {
		holds(t, c.s, someFuns(), c.e)
	}
	many := times(" (or ?x 1)", 1000)
	if e, err := expr.Parse(read(t, "(and"+many+")"), nil); err != nil || len(e.Kids) != 1000 || expr.Size(e) != 3001 {
		t.Errorf("P701: an and of 1000: %d, %v", len(e.Kids), err)
	}
	deep, want := "(not ?x)", call("not", variable("x"))
	for range api.MaxDepth - 1 {
		deep, want = "(not "+deep+")", call("not", want)
	}
	holds(t, deep, nil, want)
}

// TestWhatIsNoExpr: an empty list, a Not, a list whose first kid is no symbol, each At its own node, wherever it stands.
func TestWhatIsNoExpr(t *testing.T) {
	for _, s := range []string{"()", "~a", "~?x", "~?*g*", "~5", "~\"s\"", "(5)", "(5 a)", "(\"f\" 1 2)", "(?x)", "(?f 1 2)", "(?*f* 1 2)", "(())", "((f 1 2))", "((f) 1)", "(~f 1 2)", "(~and)", "(() a)"} {
		for _, around := range []string{"%s", "  %s", "(and %s)", "(or 1 %s)", "(str-cat a (f 1 %s) b)", "(if %s then 2 else 3)", "(if 1 then %s else 3)", "(if 1 then 2 else %s)", "(and %s ())", "(none-such %s)"} {
			whole := fmt.Sprintf(around, s)
			at, err := strings.Index(around, "%"), api.ErrForm
			if strings.HasPrefix(around, "(none-such") {
				at, err = 0, api.ErrName
			}
			refuses(t, whole, someFuns(), at, err)
		}
	}
}

// TestIf: an If of another form is refused at its own node, ahead of whatever is wrong in it.
func TestIf(t *testing.T) {
	for _, s := range []string{
		"(if)", "(if a)", "(if a then)", "(if a then b)", "(if a then b else)", "(if a then b else c d)", "(if a then b else c else d)", "(if a then b c)", "(if a b c)", "(if a b c d e)",
		"(if a than b else c)", "(if a then b elsa c)", "(if a else b then c)", "(if a THEN b ELSE c)", "(if a \"then\" b else c)", "(if a then b \"else\" c)", "(if a ?then b else c)", "(if a then b ?*else* c)", "(if a (then) b else c)", "(if a then b ~else c)", "(if then a b else c)", "(if a then else b c)",
		"(if () then (g))", "(if (g) than () else (f))", "(if (h) (h))", "(if ~a)",
	} {
		refuses(t, s, someFuns(), 0, api.ErrForm)
		refuses(t, "(and  "+s+" (g))", someFuns(), 6, api.ErrForm)
		refuses(t, s, []expr.Sig{{Name: "if"}, {Name: "if", Args: len(read(t, s).Kids) - 1}}, 0, api.ErrForm)
	}
}

// TestWordsAreNoCalls: if, and, or are forms, whatever functions there are; the words of an If may be functions.
func TestWordsAreNoCalls(t *testing.T) {
	funs := []expr.Sig{{Name: "if", Args: 1}, {Name: "and", Args: 1}, {Name: "or", Args: 0}, {Name: "then", Args: 0}, {Name: "else", Args: 1}}
	holds(t, "(and)", funs, form(expr.And))
	holds(t, "(and 1 2)", funs, form(expr.And, number(1), number(2)))
	holds(t, "(or 1)", funs, form(expr.Or, number(1)))
	holds(t, "(if (then) then (else 1) else (and))", funs, form(expr.If, call("then"), call("else", number(1)), form(expr.And)))
	refuses(t, "(if 1)", funs, 0, api.ErrForm)
	refuses(t, "(if (then) (then) 1 else 2)", funs, 0, api.ErrForm)
}

func TestNames(t *testing.T) {
	for _, s := range []string{"(g)", "(g 1 2)", "(F 1 2)", "(f2 1 2)", "(then)", "(else 1)", "(AND)", "(If a then b else c)", "(fi)", "(foo ())", "(g (h))", "(g ~a)", "(=> 1)", "(TRUE)", "(" + times("x", api.MaxName) + ")"} {
		refuses(t, s, someFuns(), 0, api.ErrName)
		refuses(t, "(or 1 (none) "+s+" ())", someFuns(), 13, api.ErrName)
	}
	refuses(t, "(f 1 2)", nil, 0, api.ErrName)
	refuses(t, "(f 1 2)", []expr.Sig{{Name: "g", Args: 2}, {Name: "F", Args: 2}, {Name: ""}}, 0, api.ErrName)
	holds(t, "(f 1 2)", []expr.Sig{{Name: "g", Args: 2}, {Name: "f", Args: 2}}, call("f", number(1), number(2)))
}

// TestFirstFun: of functions of one name the first one is asked, ahead of what is built in.
func TestFirstFun(t *testing.T) {
	holds(t, "(f 1 2)", someFuns(), call("f", number(1), number(2)))
	refuses(t, "(f 1)", someFuns(), 0, api.ErrArg)
	holds(t, "(abs)", someFuns(), call("abs"))
	refuses(t, "(abs 1)", someFuns(), 0, api.ErrArg)
	holds(t, "(+ 1 2 3)", someFuns(), call("+", number(1), number(2), number(3)))
	refuses(t, "(+)", someFuns(), 0, api.ErrArg)
	refuses(t, "(+ 1 2)", someFuns(), 0, api.ErrArg)
	refuses(t, "(+ 1 2 3 4)", someFuns(), 0, api.ErrArg)
	holds(t, "(abs 1)", nil, call("abs", number(1)))
	refuses(t, "(abs)", nil, 0, api.ErrArg)
	holds(t, "(+)", nil, call("+"))
}

// TestCounts: all that is built in, and functions, with each count of args up to some.
func TestCounts(t *testing.T) {
	type row struct {
		name        string
		least, most int
	}
	var rows []row
	for _, name := range built.Names() {
		least, most := built.Arity(name)
		rows = append(rows, row{name, least, most})
	}
	var funs []expr.Sig
	for count := range 5 {
		name := fmt.Sprintf("f%d", count)
		funs = append(funs, expr.Sig{Name: name, Args: count})
		rows = append(rows, row{name, count, count})
	}
	for _, r := range rows {
		for count := range 7 {
			s, want := "("+r.name+times(" ?x", count)+")", call(r.name)
			for range count {
				want.Kids = append(want.Kids, variable("x"))
			}
			if count >= r.least && (r.most < 0 || count <= r.most) {
				holds(t, s, funs, want)
			} else {
				refuses(t, s, funs, 0, api.ErrArg)
				refuses(t, "(and (or) "+s+")", funs, 10, api.ErrArg)
			}
		}
	}
	// A count that no list has: no call fits.
	for count := range 3 {
		refuses(t, "(f"+times(" 1", count)+")", []expr.Sig{{Name: "f", Args: -1}}, 0, api.ErrArg)
		refuses(t, "(f"+times(" 1", count)+")", []expr.Sig{{Name: "f", Args: math.MinInt}}, 0, api.ErrArg)
		refuses(t, "(f"+times(" 1", count)+")", []expr.Sig{{Name: "f", Args: math.MaxInt}}, 0, api.ErrArg)
	}
}

// TestFirstFault: what is wrong with a list goes ahead of what is wrong in it, and the first kid's fault ahead of the others' (P6).
func TestFirstFault(t *testing.T) {
	for _, c := range []struct {
		s   string
		at  int
		err api.Errno
	}{
		{"(f (h))", 0, api.ErrArg}, {"(f ())", 0, api.ErrArg}, {"(f (h) ())", 3, api.ErrName}, {"(f () (h))", 3, api.ErrForm}, {"(f 1 (h))", 5, api.ErrName}, {"(f (one) (h))", 3, api.ErrArg},
		{"(f (one ()) (h))", 8, api.ErrForm}, {"(f (one 1) (one (g)))", 16, api.ErrName}, {"(f (f 1 (one ~a)) ())", 13, api.ErrForm},
		{"(if () then (g) else (one))", 4, api.ErrForm}, {"(if (one) then (g) else ())", 4, api.ErrArg}, {"(if 1 then (g) else ())", 11, api.ErrName}, {"(if 1 then 2 else (one))", 18, api.ErrArg}, {"(if (and (or (g))) then () else 3)", 13, api.ErrName},
		{"(and (g) ())", 5, api.ErrName}, {"(or 1 (and 2 ()) (g))", 13, api.ErrForm}, {"(and (and) (or) (div 1))", 16, api.ErrArg}, {"(str-cat 1 (not 1 2 (g)) ())", 11, api.ErrArg},
	} {
		refuses(t, c.s, someFuns(), c.at, c.err)
		refuses(t, "\n\t"+c.s+" ", someFuns(), c.at+2, c.err)
	}
}

// TestSmallNodes: all nodes of some few parts are answered as one who looks at the promise's words alone, list by list, would.
func TestSmallNodes(t *testing.T) {
	words := []string{"1", "?x", "?*g*", "\"s\"", "~a", "if", "then", "else", "and", "one", "none", "g"}
	lists := []string{"()"}
	for _, a := range words {
		lists = append(lists, "("+a+")")
		for _, b := range words {
			lists = append(lists, "("+a+" "+b+")")
		}
	}
	texts := slices.Concat(words, lists)
	for _, head := range []string{"one", "and", "g", "f", "-"} {
		for _, a := range lists {
			texts = append(texts, "("+head+" "+a+")")
		}
		for i := range lists {
			texts = append(texts, "("+head+" "+lists[i]+" "+lists[(7*i+3)%len(lists)]+")")
		}
	}
	for i := range lists {
		a, b, c := lists[i], lists[(5*i+1)%len(lists)], lists[(11*i+2)%len(lists)]
		texts = append(texts, "(if "+a+" then 1 else 2)", "(if 1 then "+a+" else "+b+")", "(if "+a+" then "+b+" else "+c+")", "(if "+a+" "+b+" "+c+" else 2)")
	}
	good := 0
	for _, s := range texts {
		n := read(t, s)
		want := wrong(n)
		e, err := expr.Parse(n, someFuns())
		if sexp.Told(err) != want || want != "" && !equal(e, expr.Expr{}) {
			t.Errorf("P701: Parse(%q): %+v, %v, not %q", s, e, err, want)
		}
		if want == "" {
			good++
			if back := expr.Node(e); !sexp.Same(back, n) || !placeless(back) {
				t.Errorf("P701: %q there and back: %q", s, sexp.Text(back))
			}
		}
	}
	if good < 100 {
		t.Errorf("only %d of %d texts are good", good, len(texts))
	}
}

// wrong tells the error of a node, by the promise's words, with someFuns.
func wrong(n sexp.Node) string {
	here := fmt.Sprintf("char %d: ", n.At)
	if n.Kind == lex.Not || n.Kind == sexp.List && (len(n.Kids) == 0 || n.Kids[0].Kind != api.Sym) {
		return here + "form"
	}
	if n.Kind != sexp.List {
		return ""
	}
	head, args := n.Kids[0].S, slices.Clone(n.Kids[1:])
	counts := map[string][]int{"one": {1}, "none": {0}, "f": {2}, "-": {1, 2, 3, 4, 5, 6}, "and": {0, 1, 2, 3, 4, 5, 6}}
	switch {
	case head == "if":
		if len(args) != 5 || args[1].Kind != api.Sym || args[1].S != "then" || args[3].Kind != api.Sym || args[3].S != "else" {
			return here + "form"
		}
	case counts[head] == nil:
		return here + "name"
	case !slices.Contains(counts[head], len(args)):
		return here + "arg"
	}
	for _, arg := range args {
		if told := wrong(arg); told != "" {
			return told
		}
	}
	return ""
}

func TestSame(t *testing.T) {
	texts := []string{
		"1", "2", "a", "b", "\"a\"", "\"1\"", "\"\"", "?a", "?b", "?*a*", "?*b*", "(and)", "(or)", "(none)", "(and a)", "(and b)", "(and ?a)", "(and ?*a*)", "(and \"a\")", "(and (and))", "(and (or))", "(and a a)", "(and a b)", "(and b a)", "(or a b)",
		"(one a)", "(one b)", "(not a)", "(f a b)", "(eq a b)", "(eq b a)", "(if a then b else c)", "(if a then c else b)", "(and a b c)", "(or a b c)", "(+ a b c)", "(and (f 1 2) ?x)", "(and (f 1 3) ?x)", "(and (f 1 2) ?y)", "(and (one 1) ?x)", "(and ?x (f 1 2))",
	}
	for i, s := range texts {
		for k, u := range texts {
			// The same one stands elsewhere in its text.
			wide := " \n" + strings.NewReplacer("(", " (  ", ")", "\t) ", " ", "  ").Replace(u)
			a, errA := expr.Parse(read(t, s), someFuns())
			b, errB := expr.Parse(read(t, wide), someFuns())
			if errA != nil || errB != nil {
				t.Fatalf("P701: %v, %v", errA, errB)
			}
			if expr.Same(a, b) != (i == k) || expr.Same(b, a) != (i == k) {
				t.Errorf("P701: Same(%q, %q) is not %v", s, wide, i == k)
			}
		}
	}
}

// TestSameFields: all fields count, of Exprs that Parse does not tell, too; no list is an empty one (P2).
func TestSameFields(t *testing.T) {
	base := func() expr.Expr {
		return expr.Expr{Kind: 9, V: api.Value{Kind: 8, I: 7, S: "v"}, S: "s", Kids: []expr.Expr{number(1), call("f", variable("x"))}}
	}
	changes := []func(e *expr.Expr){
		func(e *expr.Expr) { e.Kind = 8 },
		func(e *expr.Expr) { e.V.Kind = 9 },
		func(e *expr.Expr) { e.V.I = 8 },
		func(e *expr.Expr) { e.V.S = "w" },
		func(e *expr.Expr) { e.S = "t" },
		func(e *expr.Expr) { e.Kids = nil },
		func(e *expr.Expr) { e.Kids = e.Kids[:1] },
		func(e *expr.Expr) { e.Kids = append(e.Kids, number(2)) },
		func(e *expr.Expr) { e.Kids[0].V.I = 2 },
		func(e *expr.Expr) { e.Kids[1].Kids[0].S = "y" },
		func(e *expr.Expr) { slices.Reverse(e.Kids) },
	}
	if !expr.Same(base(), base()) {
		t.Error("P701: Same of the same")
	}
	for i, change := range changes {
		other := base()
		change(&other)
		if expr.Same(base(), other) || expr.Same(other, base()) || !expr.Same(other, other) {
			t.Errorf("P701: Same: change %d", i)
		}
	}
	a, b := form(expr.And), expr.Expr{Kind: expr.And, Kids: make([]expr.Expr, 0, 3)}
	if !expr.Same(a, b) || !expr.Same(b, a) || !expr.Same(expr.Expr{}, expr.Expr{Kids: []expr.Expr{}}) {
		t.Error("P701: Same of no list and an empty one")
	}
}

func TestVarsGlobsSize(t *testing.T) {
	for _, c := range []struct {
		s           string
		vars, globs string
		size        int
	}{
		{"1", "", "", 1}, {"a", "", "", 1}, {"\"?x\"", "", "", 1}, {"?x", "x", "", 1}, {"?*x*", "", "x", 1}, {"(and)", "", "", 1}, {"(none)", "", "", 1},
		{"(and ?x)", "x", "", 2}, {"(and ?x ?x)", "x", "", 3}, {"(or ?b ?a ?b)", "b a", "", 4}, {"(or ?*b* ?*a* ?*b*)", "", "b a", 4}, {"(and ?x ?*x* x \"x\")", "x", "x", 5},
		{"(f (f ?c ?*p*) (f ?a ?*o*))", "c a", "p o", 7}, {"(and (or (or ?d) ?c) ?b (or ?d ?a))", "d c b a", "", 9},
		{"(if ?c then ?b else ?a)", "c b a", "", 4}, {"(if ?*c* then ?b else (not ?*a*))", "b", "c a", 5}, {"(if ?x then (f ?y ?*g*) else (and ?x ?*h* ?*g* ?y 3))", "x y", "g h", 11},
		{"(and ?x ?X ?x1 ?x-1 ?x_1)", "x X x1 x-1 x_1", "", 6}, {"(if if then then else else)", "", "", 4},
		{"(and" + times(" ?x ?*y*", 500) + ")", "x", "y", 1001},
	} {
		e, err := expr.Parse(read(t, c.s), someFuns())
		if err != nil {
			t.Fatalf("P701: %.80q: %v", c.s, err)
		}
		if vars, globs := expr.Vars(e), expr.Globs(e); !slices.Equal(vars, strings.Fields(c.vars)) || !slices.Equal(globs, strings.Fields(c.globs)) {
			t.Errorf("P701: %.80q: %v, %v, not %q, %q", c.s, vars, globs, c.vars, c.globs)
		}
		if size := expr.Size(e); size != c.size {
			t.Errorf("P701: Size of %.80q: %d, not %d", c.s, size, c.size)
		}
	}
}

// TestNodesThatWereNotRead: a Parse of any node is answered, as far as the promise's words go.
func TestNodesThatWereNotRead(t *testing.T) {
	sym := func(s string) sexp.Node { return sexp.Node{Kind: api.Sym, At: 3, S: s} }
	list := func(kids ...sexp.Node) sexp.Node { return sexp.Node{At: 7, Kids: kids} }
	for _, kind := range []int{math.MinInt, -1, lex.Open, lex.Close, lex.Not, 9, math.MaxInt} {
		n := sexp.Node{Kind: kind, At: 5, I: 1, S: "and", Kids: []sexp.Node{sym("and")}}
		refusesNode(t, n, someFuns(), 5, api.ErrForm)
		refusesNode(t, list(n), someFuns(), 7, api.ErrForm)
		refusesNode(t, list(sym("or"), n), someFuns(), 5, api.ErrForm)
		refusesNode(t, sexp.Node{Kind: kind, At: math.MinInt}, nil, math.MinInt, api.ErrForm)
	}
	refusesNode(t, list(sym("")), someFuns(), 7, api.ErrName)
	refusesNode(t, list(sym("a b")), someFuns(), 7, api.ErrName)
	refusesNode(t, sexp.Node{Kids: make([]sexp.Node, 0, 4)}, nil, 0, api.ErrForm)
	// What a leaf holds beside its own fields is not told (P4).
	for _, kind := range []int{lex.Var, lex.Glob} {
		e, err := expr.Parse(sexp.Node{Kind: kind, At: 5, I: 1, S: "x", Kids: []sexp.Node{sym("g")}}, nil)
		want := variable("x")
		if kind == lex.Glob {
			want = global("x")
		}
		if err != nil || !equal(e, want) {
			t.Errorf("P701: kind %d: %+v, %v", kind, e, err)
		}
	}
	if e, err := expr.Parse(sexp.Node{Kind: api.Int, I: 4, Kids: []sexp.Node{list()}}, nil); err != nil || !equal(e, number(4)) {
		t.Errorf("P701: a number with kids: %+v, %v", e, err)
	}
}

// TestDeep: nodes that were not read may be in one another deeper than a stack of calls goes (P1).
func TestDeep(t *testing.T) {
	const depth = 200000
	defer debug.SetMaxStack(debug.SetMaxStack(1 << 20))
	leaf := sexp.Node{Kind: lex.Var, S: "x"}
	a, b, bad := leaf, sexp.Node{Kind: lex.Glob, S: "x"}, sexp.Node{Kind: lex.Not, At: 77}
	wrap := func(n sexp.Node) sexp.Node {
		return sexp.Node{Kids: []sexp.Node{{Kind: api.Sym, S: "f"}, leaf, n}}
	}
	for range depth {
		a, b, bad = wrap(a), wrap(b), wrap(bad)
	}
	e, errE := expr.Parse(a, someFuns())
	other, errOther := expr.Parse(b, someFuns())
	if errE != nil || errOther != nil {
		t.Fatalf("P701: %v, %v", errE, errOther)
	}
	again, _ := expr.Parse(a, someFuns())
	if !expr.Same(e, again) || expr.Same(e, other) {
		t.Error("P701: Same")
	}
	if !sexp.Same(expr.Node(e), a) || sexp.Same(expr.Node(e), b) {
		t.Error("P701: Node")
	}
	if size := expr.Size(e); size != 2*depth+1 {
		t.Errorf("P701: Size: %d", size)
	}
	if !slices.Equal(expr.Vars(e), []string{"x"}) || len(expr.Globs(e)) != 0 || !slices.Equal(expr.Globs(other), []string{"x"}) {
		t.Error("P701: Vars, Globs")
	}
	if x, err := expr.Parse(bad, someFuns()); sexp.Told(err) != "char 77: form" || len(x.Kids) != 0 || x.Kind != 0 {
		t.Errorf("P701: %v", err)
	}
}

// TestManyNames: as many names as nodes are told in no more than some steps each.
func TestManyNames(t *testing.T) {
	e := form(expr.And)
	for i := range 200000 {
		e.Kids = append(e.Kids, variable(fmt.Sprint("x", i)), global(fmt.Sprint("y", i)))
	}
	if vars, globs := expr.Vars(e), expr.Globs(e); len(vars) != 200000 || len(globs) != 200000 || vars[199999] != "x199999" || globs[77] != "y77" {
		t.Errorf("P701: %d, %d names", len(vars), len(globs))
	}
}

// TestAnyExpr: whatever Expr is handed in is answered (P1, P8), and not changed (P2).
func TestAnyExpr(t *testing.T) {
	kinds := []int{math.MinInt, -1, 0, expr.Const, expr.Var, expr.Glob, expr.Call, expr.If, expr.And, expr.Or, 8, math.MaxInt}
	var l []expr.Expr
	for _, kind := range kinds {
		for _, s := range []string{"", "x", "\xff\x00\"\\"} {
			for _, v := range []api.Value{{}, val.OfInt(1), {Kind: -1, I: 2, S: "v"}, {Kind: lex.Not}, {Kind: lex.Close}} {
				e := expr.Expr{Kind: kind, V: v, S: s}
				for range 6 {
					l = append(l, e)
					e.Kids = append(slices.Clone(e.Kids), e)
				}
			}
		}
	}
	whole := expr.Expr{Kind: expr.If, Kids: l}
	was := copied(whole)
	for i, e := range append(l, whole) {
		sexp.Text(expr.Node(e))
		expr.Vars(e)
		expr.Globs(e)
		if expr.Size(e) < 1 || !expr.Same(e, copied(e)) {
			t.Errorf("P701: case %d", i)
		}
	}
	if !equal(whole, was) {
		t.Error("P701: an Expr was changed")
	}
}

// copied tells an Expr that shares nothing with e.
func copied(e expr.Expr) expr.Expr {
	e.Kids = slices.Clone(e.Kids)
	for i := range e.Kids {
		e.Kids[i] = copied(e.Kids[i])
	}
	return e
}

// copiedNode tells a node that shares nothing with n, but for its spare room, which is as great.
func copiedNode(n sexp.Node) sexp.Node {
	kids := make([]sexp.Node, cap(n.Kids))
	for i, kid := range n.Kids[:cap(n.Kids)] {
		kids[i] = copiedNode(kid)
	}
	n.Kids = kids[:len(n.Kids)]
	return n
}

// withRoom tells n with spare room, filled, behind each of its lists.
func withRoom(n sexp.Node) sexp.Node {
	kids := make([]sexp.Node, 0, len(n.Kids)+3)
	for _, kid := range n.Kids {
		kids = append(kids, withRoom(kid))
	}
	spare := kids[:cap(kids)]
	for i := len(kids); i < cap(kids); i++ {
		spare[i] = sexp.Node{Kind: api.Sym, S: "spare"}
	}
	n.Kids = kids
	return n
}

// equalRoom tells whether a and b are the same, their spare room too.
func equalRoom(a, b sexp.Node) bool {
	x, y := a.Kids[:cap(a.Kids)], b.Kids[:cap(b.Kids)]
	a.Kids, b.Kids = nil, nil
	return equalNodes(a, b) && slices.EqualFunc(x, y, equalRoom)
}

// spoil changes all of n, its spare room too.
func spoil(n *sexp.Node) {
	kids := n.Kids[:cap(n.Kids)]
	for i := range kids {
		spoil(&kids[i])
	}
	*n = sexp.Node{Kind: lex.Not, At: 1, I: 1, S: "spoilt"}
}

// TestParseTakesNothing: what is handed in is not changed, with its spare room, and not kept; no two lists of answers share room (P2).
func TestParseTakesNothing(t *testing.T) {
	for _, s := range []string{"(if (f ?x 1) then (and (or) (one \"s\") ?*g*) else (if 1 then 2 else (none)))", "(f 1 2)", "(and)", "(f (g) 1)", "(if a then b)", "?x"} {
		n := withRoom(read(t, s))
		was := copiedNode(n)
		room := append(someFuns(), expr.Sig{Name: "g", Args: 0}, expr.Sig{Name: "spare"})
		funs, funsWere := room[:len(room)-2], slices.Clone(room)
		first, errFirst := expr.Parse(n, funs)
		second, errSecond := expr.Parse(n, funs)
		if !equalRoom(n, was) || !slices.Equal(room, funsWere) {
			t.Errorf("P701: Parse(%q) changed what it was handed", s)
		}
		if !equal(first, second) || sexp.Told(errFirst) != sexp.Told(errSecond) {
			t.Errorf("P701: Parse(%q) is not the same again", s)
		}
		places := map[*expr.Expr]int{}
		apart(t, first, places)
		apart(t, second, places)
		kept, told := copied(first), sexp.Told(errFirst)
		spoil(&n)
		clear(room)
		if !equal(first, kept) || sexp.Told(errFirst) != told {
			t.Errorf("P701: Parse(%q) kept what it was handed", s)
		}
	}
}

// apart asks that no list has a place, its spare room too, that another one has.
func apart(t *testing.T, e expr.Expr, places map[*expr.Expr]int) {
	t.Helper()
	for i := range cap(e.Kids) {
		place := &e.Kids[:cap(e.Kids)][i]
		if places[place]++; places[place] > 1 {
			t.Error("P701: two lists share room")
		}
	}
	for _, kid := range e.Kids {
		apart(t, kid, places)
	}
}

// TestNodeTakesNothing: the nodes and names that are told are new ones (P2).
func TestNodeTakesNothing(t *testing.T) {
	e, err := expr.Parse(read(t, "(if (f ?x 1) then (and (or) (and ?y \"s\") ?*g*) else (if 1 then 2 else (one ?*h*)))"), someFuns())
	if err != nil {
		t.Fatal(err)
	}
	was := copied(e)
	first, second := expr.Node(e), expr.Node(e)
	places := map[*sexp.Node]int{}
	apartNodes(t, first, places)
	apartNodes(t, second, places)
	spoil(&first)
	if !equal(e, was) || !equalNodes(second, expr.Node(was)) {
		t.Error("P701: Node shares room")
	}
	for _, names := range []func(e expr.Expr) []string{expr.Vars, expr.Globs} {
		l, again := names(e), names(e)
		l = l[:cap(l)]
		clear(l)
		if slices.Contains(again, "") || len(again) != 2 || !slices.Equal(names(e), again) {
			t.Error("P701: names share room")
		}
	}
	if !equal(e, was) {
		t.Error("P701: an Expr was changed")
	}
}

// apartNodes is apart, of nodes.
func apartNodes(t *testing.T, n sexp.Node, places map[*sexp.Node]int) {
	t.Helper()
	for i := range cap(n.Kids) {
		place := &n.Kids[:cap(n.Kids)][i]
		if places[place]++; places[place] > 1 {
			t.Error("P701: two lists share room")
		}
	}
	for _, kid := range n.Kids {
		apartNodes(t, kid, places)
	}
}

// TestParseAgain: a refused Parse changes nothing of the next one (P3, P5).
func TestParseAgain(t *testing.T) {
	for _, s := range []string{"()", "~a", "(g)", "(one)", "(if)", "(and (or ()))", "1"} {
		expr.Parse(read(t, s), []expr.Sig{{Name: "f", Args: 0}})
		holds(t, "(f ?x (and))", someFuns(), call("f", variable("x"), form(expr.And)))
	}
}
