package eval_test

import (
	"fmt"
	"math"
	"reflect"
	"runtime/debug"
	"slices"
	"strings"
	"testing"

	"whelk/api"
	"whelk/built"
	"whelk/eval"
	"whelk/expr"
	"whelk/num"
	"whelk/sexp"
	"whelk/val"
)

// A function is written as its name, its params, and its body.
type fun struct{ name, params, body string }

// funs are functions of several forms; two have the name of something built in, one is there twice.
func funs() []fun {
	return []fun{
		{"none", "", ""}, {"empty", "a b", ""}, {"one", "a", "?a"}, {"f", "a b", "7 (- ?a ?b)"}, {"outer", "a", "?x"}, {"glob", "", "?*g*"}, {"mixed", "", "?s"}, {"inner", "", "?a"}, {"calls", "a", "(inner)"}, {"param", "g", "?*g*"},
		{"loop", "n", "(loop ?n)"}, {"deep", "n", "(if (= ?n 0) then 0 else (+ 1 (deep (- ?n 1))))"},
		{"even", "n", "(if (= ?n 0) then TRUE else (odd (- ?n 1)))"}, {"odd", "n", "(if (= ?n 0) then FALSE else (even (- ?n 1)))"},
		{"last", "n", "(if (= ?n 0) then (none) else (last (- ?n 1)))"}, {"wrong", "n", "(if (= ?n 0) then (loop) else (wrong (- ?n 1)))"},
		{"many", "", strings.Repeat("(one 1) ", 40) + "(and" + strings.Repeat(" (one 2)", 40) + ")"}, {"twice", "a a", "?a"},
		{"fib", "n", "(if (< ?n 2) then ?n else (+ (fib (- ?n 1)) (fib (- ?n 2))))"}, {"fails", "", "1 (div 1 0) 2"}, {"unbound", "", "?nobody 2"},
		{"abs", "", "built"}, {"length", "a b", "(length \"seven\")"}, {"f", "a", "?a"},
	}
}

// sigs are the counts of args that funs take, and of one that no machine has.
func sigs() []expr.Sig {
	l := []expr.Sig{{Name: "gone", Args: 1}}
	for _, f := range funs() {
		l = append(l, expr.Sig{Name: f.name, Args: len(strings.Fields(f.params))})
	}
	return l
}

func parse(t *testing.T, s string) expr.Expr {
	t.Helper()
	l := parseAll(t, s)
	if len(l) != 1 {
		t.Fatalf("%d nodes in %.80q", len(l), s)
	}
	return l[0]
}

func parseAll(t *testing.T, s string) []expr.Expr {
	t.Helper()
	nodes, err := sexp.Read([]byte(s))
	if err != nil {
		t.Fatalf("Read(%.80q): %v", s, err)
	}
	var l []expr.Expr
	for _, n := range nodes {
		l = append(l, made(n))
	}
	return l
}

// made tells what Parse would, but takes any name with any count of args: these are for the machine to refuse.
func made(n sexp.Node) expr.Expr {
	if n.Kind != sexp.List {
		e, _ := expr.Parse(n, nil)
		return e
	}
	e, args := expr.Expr{Kind: expr.Call, S: n.Kids[0].S}, n.Kids[1:]
	switch e.S {
	case "if":
		e, args = expr.Expr{Kind: expr.If}, []sexp.Node{n.Kids[1], n.Kids[3], n.Kids[5]}
	case "and":
		e = expr.Expr{Kind: expr.And}
	case "or":
		e = expr.Expr{Kind: expr.Or}
	}
	for _, arg := range args {
		e.Kids = append(e.Kids, made(arg))
	}
	return e
}

func machine(t *testing.T, fuel int) *eval.Machine {
	t.Helper()
	m := &eval.Machine{Globs: []eval.Bind{{Name: "g", V: val.OfInt(40)}, {Name: "s", V: val.OfStr("s")}, {Name: "no", V: val.OfBool(false)}}, Fuel: num.Fuel{Left: fuel}}
	for _, f := range funs() {
		m.Funs = append(m.Funs, eval.Func{Name: f.name, Params: strings.Fields(f.params), Body: parseAll(t, f.body)})
	}
	return m
}

func someEnv() []eval.Bind {
	return []eval.Bind{{Name: "x", V: val.OfInt(1)}, {Name: "y", V: val.OfSym("b")}, {Name: "x", V: val.OfInt(2)}, {Name: "no", V: val.OfSym("FALSE")}, {Name: "g", V: val.OfInt(-1)}}
}

const plenty = 1000000

// with tells what m answers e, with so much Fuel, and how much is left.
func with(m *eval.Machine, left int, e expr.Expr) (api.Value, api.Errno, int) {
	m.Fuel.Left = left
	v, err := m.Eval(e, someEnv())
	return v, err, m.Fuel.Left
}

// answers asks that s is answered so, with so much Fuel; and that each Fuel below that is too little.
func answers(t *testing.T, s, want string, used int) {
	t.Helper()
	m, e := machine(t, 0), parse(t, s)
	for _, left := range []int{used, used + 1, plenty} {
		v, err, rest := with(m, left, e)
		if err != api.OK || val.Text(v) != want || !val.Right(v) || left-rest != used {
			t.Errorf("P801: %.80q with %d: %v, %v, %d used; want %s, %d used", s, left, v, err, left-rest, want, used)
		}
	}
	tooLittle(t, s, used)
}

// refuses asks that s is refused so, with so much Fuel used; and that each Fuel below that is too little.
func refuses(t *testing.T, s string, want api.Errno, used int) {
	t.Helper()
	m, e := machine(t, 0), parse(t, s)
	for _, left := range []int{used, used + 1, plenty} {
		v, err, rest := with(m, left, e)
		if err != want || v != (api.Value{}) || left-rest != used {
			t.Errorf("P801: %.80q with %d: %v, %v, %d used; want %v, %d used", s, left, v, err, left-rest, want, used)
		}
	}
	tooLittle(t, s, used)
}

// tooLittle asks that s is refused by ErrFuel with each Fuel below used.
func tooLittle(t *testing.T, s string, used int) {
	t.Helper()
	m, e := machine(t, 0), parse(t, s)
	for left := range used {
		if v, err, rest := with(m, left, e); err != api.ErrFuel || v != (api.Value{}) || rest != 0 {
			t.Errorf("P801: %.80q with %d: %v, %v, %d left; want ErrFuel", s, left, v, err, rest)
		}
	}
}

func TestLeaves(t *testing.T) {
	answers(t, "7", "7", 1)
	answers(t, "-9223372036854775808", "-9223372036854775808", 1)
	answers(t, "a", "a", 1)
	answers(t, "FALSE", "FALSE", 1)
	answers(t, `"a \"b\""`, `"a \"b\""`, 1)
	answers(t, `""`, `""`, 1)
	// The last Bind of a name; globals are apart from variables.
	answers(t, "?x", "2", 1)
	answers(t, "?y", "b", 1)
	answers(t, "?g", "-1", 1)
	answers(t, "?*g*", "40", 1)
	answers(t, "?*s*", `"s"`, 1)
	refuses(t, "?z", api.ErrBound, 1)
	refuses(t, "?s", api.ErrBound, 1)
	refuses(t, "?*x*", api.ErrBound, 1)
	refuses(t, "?*G*", api.ErrBound, 1)
}

func TestIf(t *testing.T) {
	answers(t, "(if TRUE then a else b)", "a", 3)
	answers(t, "(if FALSE then a else b)", "b", 3)
	// All but the symbol FALSE is True.
	for _, c := range []string{"0", "nil", "false", `""`, `"FALSE"`, "?x", "?y", "?*g*"} {
		answers(t, "(if "+c+" then a else ?z)", "a", 3)
	}
	answers(t, "(if ?no then ?z else b)", "b", 3)
	answers(t, "(if ?*no* then ?z else b)", "b", 3)
	answers(t, "(if (and) then (or) else 1)", "FALSE", 3)
	answers(t, "(if (if FALSE then 1 else FALSE) then 2 else (if 3 then 4 else 5))", "4", 7)
	answers(t, "(if TRUE then (+ 1 2) else (loop 1))", "3", 5)
	answers(t, "(+ (if 1 then 2 else 3) (if FALSE then 2 else 3))", "5", 7)
	refuses(t, "(if ?z then a else b)", api.ErrBound, 2)
	refuses(t, "(if TRUE then ?z else b)", api.ErrBound, 3)
	refuses(t, "(if FALSE then a else ?z)", api.ErrBound, 3)
	refuses(t, "(if (div 1 0) then ?z else ?z)", api.ErrRange, 4)
}

func TestAndOr(t *testing.T) {
	answers(t, "(and)", "TRUE", 1)
	answers(t, "(or)", "FALSE", 1)
	answers(t, "(and FALSE)", "FALSE", 2)
	answers(t, "(or FALSE)", "FALSE", 2)
	// TRUE or FALSE, whatever settles it.
	answers(t, "(and 7)", "TRUE", 2)
	answers(t, "(or 7)", "TRUE", 2)
	answers(t, "(and ?x ?y \"\")", "TRUE", 4)
	answers(t, "(or ?no ?*no* FALSE)", "FALSE", 4)
	answers(t, "(or ?no ?*no* nil)", "TRUE", 4)
	// As far as it must.
	answers(t, "(and ?x FALSE ?z)", "FALSE", 3)
	answers(t, "(and FALSE ?z ?z)", "FALSE", 2)
	answers(t, "(or FALSE 0 ?z)", "TRUE", 3)
	answers(t, "(or 0 ?z)", "TRUE", 2)
	answers(t, "(and 1 2 FALSE (loop 1))", "FALSE", 4)
	refuses(t, "(and ?z FALSE)", api.ErrBound, 2)
	refuses(t, "(and 1 ?z FALSE)", api.ErrBound, 3)
	refuses(t, "(or ?z 1)", api.ErrBound, 2)
	refuses(t, "(or FALSE ?z 1)", api.ErrBound, 3)
	// In one another.
	answers(t, "(and (or) ?z)", "FALSE", 2)
	answers(t, "(or (and) ?z)", "TRUE", 2)
	answers(t, "(and (and) (or FALSE (and 1 2)) (or 1 ?z))", "TRUE", 9)
	answers(t, "(or (or) (and 1 (or FALSE)) (and 1 FALSE ?z))", "FALSE", 9)
	answers(t, "(and (or (or) (and)))", "TRUE", 4)
	answers(t, "(or (and (and) (or)))", "FALSE", 4)
}

// TestBuilt: what is built in answers as built.Apply does, behind its kids.
func TestBuilt(t *testing.T) {
	answers(t, "(+)", "0", 1)
	answers(t, "(+ ?x ?*g*)", "42", 3)
	answers(t, "(- 10 1 2 3)", "4", 5)
	answers(t, "(- (* 2 3) (div 9 (- 2)))", "10", 8)
	answers(t, "(str-cat a 1 \"b\" ?x (sym-cat c -1))", `"a1b2c-1"`, 8)
	answers(t, "(< 1 2 (+ 1 2))", "TRUE", 6)
	answers(t, "(not (eq ?x 2))", "FALSE", 4)
	answers(t, "(type ?y)", "SYMBOL", 2)
	refuses(t, "(+ ?y 1)", api.ErrType, 3)
	refuses(t, "(div 1 0)", api.ErrRange, 3)
	refuses(t, "(sym-cat \"a b\")", api.ErrForm, 2)
	refuses(t, "(sym-cat "+strings.Repeat("a", 40)+" b)", api.ErrLong, 3)
	refuses(t, "(gone 1)", api.ErrName, 2)
	refuses(t, "(- )", api.ErrArg, 1)
	refuses(t, "(div 1 2 3)", api.ErrArg, 4)
	// The kids first, from the left on, whatever the name or the count.
	refuses(t, "(+ ?y ?z)", api.ErrBound, 3)
	refuses(t, "(+ (div 1 0) ?z)", api.ErrRange, 4)
	refuses(t, "(+ ?z (div 1 0))", api.ErrBound, 2)
	refuses(t, "(gone ?z)", api.ErrBound, 2)
	refuses(t, "(div 1 ?z 3)", api.ErrBound, 3)
}

func TestFuncs(t *testing.T) {
	answers(t, "(none)", "FALSE", 1)
	answers(t, "(empty 1 2)", "FALSE", 3)
	answers(t, "(and (none) ?z)", "FALSE", 2)
	answers(t, "(one ?x)", "2", 3)
	// Each of its Body, the last one's answer.
	answers(t, "(f 9 ?x)", "7", 7)
	answers(t, "(f (f 9 3) (f 2 1))", "5", 1+7+7+4)
	refuses(t, "(fails)", api.ErrRange, 5)
	refuses(t, "(unbound)", api.ErrBound, 2)
	refuses(t, "(+ 1 (fails) ?z)", api.ErrRange, 7)
	// With its Params alone, and the globals; who called has his own again behind it.
	refuses(t, "(outer 1)", api.ErrBound, 3)
	answers(t, "(glob)", "40", 2)
	answers(t, "(param 3)", "40", 3)
	refuses(t, "(mixed)", api.ErrBound, 2)
	refuses(t, "(calls 1)", api.ErrBound, 4)
	answers(t, "(+ (one 5) ?x)", "7", 5)
	answers(t, "(twice 1 2)", "2", 4)
	refuses(t, "(and (one 1) ?a)", api.ErrBound, 5)
	// The first of a name, ahead of what is built in.
	answers(t, "(abs)", "built", 2)
	refuses(t, "(abs 1)", api.ErrArg, 2)
	refuses(t, "(f 1)", api.ErrArg, 2)
	refuses(t, "(f 1 2 3)", api.ErrArg, 4)
	refuses(t, "(none 1)", api.ErrArg, 2)
	refuses(t, "(f ?z)", api.ErrBound, 2)
	// In a body, too: length of one is refused there, though what is built in takes one.
	refuses(t, "(length 1 2)", api.ErrArg, 5)
	answers(t, "(fib 10)", "55", 2+fibFuel(10))
}

// fibFuel tells what the body of fib uses, by its words.
func fibFuel(n int) int {
	if n < 2 {
		return 1 + 3 + 1
	}
	return 1 + 3 + 1 + 4 + 4 + fibFuel(n-1) + fibFuel(n-2)
}

// TestDepth: MaxDepth calls of Funcs in one another, and one more.
func TestDepth(t *testing.T) {
	refuses(t, "(loop 1)", api.ErrLong, 66)
	answers(t, "(deep 0)", "0", 2+5)
	answers(t, "(deep 30)", "30", 2+30*10+5)
	answers(t, "(deep 31)", "31", 2+31*10+5)
	refuses(t, "(deep 32)", api.ErrLong, 2+32*10)
	refuses(t, "(+ (deep 32) ?z)", api.ErrLong, 1+2+32*10)
	answers(t, "(+ (deep 31) (deep 31))", "62", 1+2*(2+31*10+5))
	answers(t, "(even 31)", "FALSE", 2+31*8+5)
	refuses(t, "(even 32)", api.ErrLong, 2+32*8)
	// One without a Body is a call as well; the count of args is asked ahead of the depth.
	answers(t, "(last 30)", "FALSE", 2+30*8+5)
	refuses(t, "(last 31)", api.ErrLong, 2+31*8+5)
	refuses(t, "(wrong 30)", api.ErrArg, 2+30*8+5)
	refuses(t, "(wrong 31)", api.ErrArg, 2+31*8+5)
	// Calls one behind the other, and as args of others, are not in one another.
	answers(t, "(many)", "TRUE", 1+40*3+1+40*3)
	e := expr.Expr{Kind: expr.Const, V: val.OfInt(5)}
	for range 100 {
		e = expr.Expr{Kind: expr.Call, S: "one", Kids: []expr.Expr{e}}
	}
	m := machine(t, plenty)
	if v, err := m.Eval(e, nil); v != val.OfInt(5) || err != api.OK || plenty-m.Fuel.Left != 201 {
		t.Errorf("P801: calls as args: %v, %v", v, err)
	}
	// What is built in is no Func.
	for range 100 {
		e = expr.Expr{Kind: expr.Call, S: "max", Kids: []expr.Expr{e}}
	}
	if v, err := m.Eval(e, nil); v != val.OfInt(5) || err != api.OK {
		t.Errorf("P801: calls of what is built in: %v, %v", v, err)
	}
	// A call that was refused leaves no depth behind.
	for range 3 {
		m.Eval(parse(t, "(loop 1)"), nil)
		if v, err := m.Eval(parse(t, "(deep 31)"), nil); v != val.OfInt(31) || err != api.OK {
			t.Errorf("P801: behind ErrLong: %v, %v", v, err)
		}
	}
}

func TestCall(t *testing.T) {
	number := func(l ...int64) []api.Value {
		var vals []api.Value
		for _, i := range l {
			vals = append(vals, val.OfInt(i))
		}
		return vals
	}
	for _, c := range []struct {
		name string
		l    []api.Value
		want string
		err  api.Errno
		used int
	}{
		{"none", nil, "FALSE", 0, 0}, {"none", []api.Value{}, "FALSE", 0, 0}, {"none", number(1), "", api.ErrArg, 0}, {"f", number(5, 3), "2", 0, 4}, {"f", number(5), "", api.ErrArg, 0}, {"f", number(5, 4, 3), "", api.ErrArg, 0},
		{"one", []api.Value{val.OfStr("a")}, `"a"`, 0, 1}, {"outer", number(1), "", api.ErrBound, 1}, {"glob", nil, "40", 0, 1}, {"fails", nil, "", api.ErrRange, 4}, {"abs", nil, "built", 0, 1}, {"abs", number(1), "", api.ErrArg, 0},
		{"deep", number(31), "31", 0, 31*10 + 5}, {"deep", number(32), "", api.ErrLong, 32 * 10}, {"loop", number(1), "", api.ErrLong, 64}, {"many", nil, "TRUE", 0, 241},
		{"+", nil, "0", 0, 0}, {"+", number(1, 2), "3", 0, 0}, {"+", []api.Value{val.OfInt(1), val.OfSym("a")}, "", api.ErrType, 0}, {"div", number(1, 0), "", api.ErrRange, 0}, {"div", number(1), "", api.ErrArg, 0},
		{"nobody", nil, "", api.ErrName, 0}, {"", nil, "", api.ErrName, 0}, {"if", number(1, 2, 3), "", api.ErrName, 0}, {"and", nil, "", api.ErrName, 0}, {"or", nil, "", api.ErrName, 0}, {"g", nil, "", api.ErrName, 0}, {"\xff", number(1), "", api.ErrName, 0},
	} {
		for _, left := range []int{c.used, plenty} {
			m := machine(t, left)
			v, err := m.Call(c.name, c.l)
			if err != c.err || val.Text(v) != c.want || err != api.OK && v != (api.Value{}) || left-m.Fuel.Left != c.used {
				t.Errorf("P801: Call(%q, %v): %v, %v, %d used; want %s, %v, %d", c.name, c.l, v, err, left-m.Fuel.Left, c.want, c.err, c.used)
			}
		}
		if c.used > 0 {
			m := machine(t, c.used-1)
			if v, err := m.Call(c.name, c.l); err != api.ErrFuel || v != (api.Value{}) || m.Fuel.Left != 0 {
				t.Errorf("P801: Call(%q, %v) with too little Fuel: %v, %v", c.name, c.l, v, err)
			}
		}
	}
	// A function may be called as a form is: no Expr calls it, but Call does.
	m := &eval.Machine{Funs: []eval.Func{{Name: "and", Params: []string{"a"}}}}
	if v, err := m.Call("and", number(1)); v != val.OfBool(false) || err != api.OK {
		t.Errorf("P801: Call of and: %v, %v", v, err)
	}
}

// TestFuel: Fuel is the machine's, call behind call; what is there at the beginning may be anything.
func TestFuel(t *testing.T) {
	m := machine(t, 10)
	for i, want := range []int{7, 4, 1, 0, 0} {
		v, err := m.Eval(parse(t, "(+ 1 2)"), nil)
		if wantErr := i > 2; m.Fuel.Left != want || wantErr != (err == api.ErrFuel) || wantErr != (v == api.Value{}) {
			t.Errorf("P801: Eval %d: %v, %v, %d left", i, v, err, m.Fuel.Left)
		}
	}
	// What needs none is still answered.
	if v, err := m.Call("+", nil); v != val.OfInt(0) || err != api.OK {
		t.Errorf("P801: Call without Fuel: %v, %v", v, err)
	}
	for _, left := range []int{0, -1, math.MinInt} {
		m := machine(t, left)
		if v, err := m.Eval(parse(t, "?z"), nil); v != (api.Value{}) || err != api.ErrFuel || m.Fuel.Left != 0 {
			t.Errorf("P801: with %d: %v, %v, %d left", left, v, err, m.Fuel.Left)
		}
	}
	m = machine(t, math.MaxInt)
	if v, err := m.Eval(parse(t, "(deep 5)"), nil); v != val.OfInt(5) || err != api.OK || m.Fuel.Left != math.MaxInt-57 {
		t.Errorf("P801: with all Fuel: %v, %v", v, err)
	}
}

// plain is a machine as the promise's words have it, one call an Expr.
type plain struct {
	funs  []eval.Func
	globs map[string]api.Value
	left  int
}

func (p *plain) eval(e expr.Expr, env map[string]api.Value, depth int) (api.Value, api.Errno) {
	if p.left == 0 {
		return api.Value{}, api.ErrFuel
	}
	p.left--
	switch e.Kind {
	case expr.Const:
		return e.V, api.OK
	case expr.Var, expr.Glob:
		from := map[int]map[string]api.Value{expr.Var: env, expr.Glob: p.globs}[e.Kind]
		if v, ok := from[e.S]; ok {
			return v, api.OK
		}
		return api.Value{}, api.ErrBound
	case expr.If:
		v, err := p.eval(e.Kids[0], env, depth)
		if err != api.OK {
			return v, err
		}
		if v == val.OfSym("FALSE") {
			return p.eval(e.Kids[2], env, depth)
		}
		return p.eval(e.Kids[1], env, depth)
	case expr.And, expr.Or:
		for _, kid := range e.Kids {
			v, err := p.eval(kid, env, depth)
			if err != api.OK {
				return v, err
			}
			if (v != val.OfSym("FALSE")) == (e.Kind == expr.Or) {
				return val.OfBool(e.Kind == expr.Or), api.OK
			}
		}
		return val.OfBool(e.Kind == expr.And), api.OK
	}
	var args []api.Value
	for _, kid := range e.Kids {
		v, err := p.eval(kid, env, depth)
		if err != api.OK {
			return v, err
		}
		args = append(args, v)
	}
	return p.call(e.S, args, depth)
}

func (p *plain) call(name string, args []api.Value, depth int) (api.Value, api.Errno) {
	for _, f := range p.funs {
		if f.Name != name {
			continue
		}
		if len(args) != len(f.Params) {
			return api.Value{}, api.ErrArg
		}
		if depth == 32 {
			return api.Value{}, api.ErrLong
		}
		env := map[string]api.Value{}
		for i, param := range f.Params {
			env[param] = args[i]
		}
		answer := val.OfSym("FALSE")
		for _, e := range f.Body {
			v, err := p.eval(e, env, depth+1)
			if err != api.OK {
				return v, err
			}
			answer = v
		}
		return answer, api.OK
	}
	return built.Apply(name, args)
}

// TestAgainstWords: many Exprs, each with many Fuels, are answered as one who goes by the promise's words would.
func TestAgainstWords(t *testing.T) {
	leaves := []string{"1", "0", "FALSE", "a", "\"s\"", "?x", "?no", "?z", "?*g*", "?*h*", "(and)", "(or)", "(none)", "(glob)", "(fails)", "(abs)", "(unbound)"}
	texts := slices.Clone(leaves)
	row := uint32(1)
	// next draws from a row that is the same each time.
	next := func(n int) int {
		row = row*1664525 + 1013904223
		return int(row>>8) % n
	}
	forms := []struct {
		ahead, between, end string
		least, most         int
	}{
		{"(and ", " ", ")", 1, 4}, {"(or ", " ", ")", 1, 4}, {"(+ ", " ", ")", 1, 3}, {"(eq ", " ", ")", 2, 2}, {"(str-cat ", " ", ")", 1, 3}, {"(not ", "", ")", 1, 1}, {"(one ", "", ")", 1, 1}, {"(f ", " ", ")", 2, 2}, {"(empty ", " ", ")", 2, 2}, {"(twice ", " ", ")", 2, 2}, {"(outer ", "", ")", 1, 1}, {"(gone ", "", ")", 1, 1}, {"(deep ", "", ")", 1, 1}, {"(last ", "", ")", 1, 1}, {"(div ", " ", ")", 2, 2},
	}
	for range 4000 {
		pick := func() string {
			// Now and then one of those that were made.
			if next(3) > 0 {
				return leaves[next(len(leaves))]
			}
			return texts[next(len(texts))]
		}
		if next(5) == 0 {
			texts = append(texts, "(if "+pick()+" then "+pick()+" else "+pick()+")")
			continue
		}
		f := forms[next(len(forms))]
		var kids []string
		for range f.least + next(f.most-f.least+1) {
			kids = append(kids, pick())
		}
		s := f.ahead + strings.Join(kids, f.between) + f.end
		if len(s) < 300 {
			texts = append(texts, s)
		}
	}
	env := map[string]api.Value{"x": val.OfInt(2), "y": val.OfSym("b"), "no": val.OfSym("FALSE"), "g": val.OfInt(-1)}
	globs := map[string]api.Value{"g": val.OfInt(40), "s": val.OfStr("s"), "no": val.OfSym("FALSE")}
	seen := map[api.Errno]int{}
	m := machine(t, 0)
	for _, s := range texts {
		nodes, err := sexp.Read([]byte(s))
		if err != nil {
			continue // deeper than lists may be
		}
		e, err := expr.Parse(nodes[0], sigs())
		if err != nil {
			t.Fatalf("Parse(%.80q): %v", s, err)
		}
		for _, left := range []int{0, 1, 2, 3, 5, 8, 13, 40, 200, 100000} {
			p := plain{m.Funs, globs, left}
			want, wantErr := p.eval(e, env, 0)
			m.Fuel.Left = left
			v, err := m.Eval(e, someEnv())
			seen[err]++
			if v != want || err != wantErr || m.Fuel.Left != p.left {
				t.Errorf("P801: %.120q with %d: %v, %v, %d left; want %v, %v, %d", s, left, v, err, m.Fuel.Left, want, wantErr, p.left)
			}
		}
	}
	for _, err := range []api.Errno{api.OK, api.ErrFuel, api.ErrBound, api.ErrType, api.ErrRange, api.ErrName, api.ErrLong} {
		if seen[err] < 10 {
			t.Errorf("only %d answers are %v", seen[err], err)
		}
	}
}

func TestGlobs(t *testing.T) {
	given := make([]eval.Bind, 2, 4)
	given[0], given[1] = eval.Bind{Name: "g", V: val.OfInt(1)}, eval.Bind{Name: "h", V: val.OfInt(2)}
	m := &eval.Machine{Globs: given, Fuel: num.Fuel{Left: 100}}
	asks := func(name string, want api.Value, wantOK bool) {
		t.Helper()
		if v, ok := m.Glob(name); v != want || ok != wantOK {
			t.Errorf("P801: Glob(%q): %v, %v", name, v, ok)
		}
		v, err := m.Eval(expr.Expr{Kind: expr.Glob, S: name}, []eval.Bind{{Name: name, V: val.OfSym("variable")}})
		if v != want || wantOK && err != api.OK || !wantOK && err != api.ErrBound {
			t.Errorf("P801: Eval of global %q: %v, %v", name, v, err)
		}
	}
	asks("g", val.OfInt(1), true)
	asks("h", val.OfInt(2), true)
	asks("i", api.Value{}, false)
	asks("", api.Value{}, false)
	if m.SetGlob("i", val.OfInt(7)) || m.SetGlob("", val.OfInt(7)) || m.SetGlob("G", val.OfInt(7)) || len(m.Globs) != 2 {
		t.Error("P801: SetGlob of none")
	}
	asks("i", api.Value{}, false)
	kept := *m
	if !m.SetGlob("h", val.OfSym("a")) || !m.SetGlob("g", val.OfStr("b")) || !m.SetGlob("h", val.OfInt(9)) || len(m.Globs) != 2 {
		t.Error("P801: SetGlob")
	}
	asks("g", val.OfStr("b"), true)
	asks("h", val.OfInt(9), true)
	// What was handed in is not changed, its spare room neither (P2).
	if !slices.Equal(given[:4], []eval.Bind{{Name: "g", V: val.OfInt(1)}, {Name: "h", V: val.OfInt(2)}, {}, {}}) {
		t.Errorf("P2: SetGlob changed %v", given[:4])
	}
	if v, ok := kept.Glob("h"); v != val.OfInt(2) || !ok {
		t.Errorf("P2: SetGlob changed another machine: %v", v)
	}
	given[0].V = val.OfInt(77)
	asks("g", val.OfStr("b"), true)
	// No globals at all.
	m = &eval.Machine{Fuel: num.Fuel{Left: 9}}
	asks("g", api.Value{}, false)
	if m.SetGlob("g", val.OfInt(1)) || len(m.Globs) != 0 {
		t.Error("P801: SetGlob without globals")
	}
	// A name that is there twice: the last one is told, the first one is set.
	m.Globs = []eval.Bind{{Name: "g", V: val.OfInt(1)}, {Name: "g", V: val.OfInt(2)}}
	asks("g", val.OfInt(2), true)
	if !m.SetGlob("g", val.OfInt(3)) || m.Globs[0].V != val.OfInt(3) || m.Globs[1].V != val.OfInt(2) {
		t.Errorf("P801: SetGlob of two: %v", m.Globs)
	}
}

func TestGet(t *testing.T) {
	env := someEnv()
	for name, want := range map[string]api.Value{"x": val.OfInt(2), "y": val.OfSym("b"), "no": val.OfSym("FALSE"), "g": val.OfInt(-1)} {
		if v, ok := eval.Get(env, name); v != want || !ok {
			t.Errorf("P801: Get(%q): %v, %v", name, v, ok)
		}
	}
	for _, name := range []string{"", "z", "X", "xx"} {
		if v, ok := eval.Get(env, name); v != (api.Value{}) || ok {
			t.Errorf("P801: Get(%q): %v, %v", name, v, ok)
		}
	}
	for _, none := range [][]eval.Bind{nil, {}, env[:0]} {
		if v, ok := eval.Get(none, "x"); v != (api.Value{}) || ok {
			t.Errorf("P801: Get of none: %v, %v", v, ok)
		}
	}
	// A value may be whatever it is.
	if v, ok := eval.Get([]eval.Bind{{}}, ""); v != (api.Value{}) || !ok {
		t.Errorf("P801: Get of nothing: %v, %v", v, ok)
	}
}

func TestPut(t *testing.T) {
	bind := func(name string, i int64) eval.Bind { return eval.Bind{Name: name, V: val.OfInt(i)} }
	a, b, c := bind("a", 1), bind("b", 2), bind("c", 3)
	for i, row := range []struct {
		env  []eval.Bind
		put  eval.Bind
		want []eval.Bind
	}{
		{nil, a, []eval.Bind{a}}, {[]eval.Bind{}, a, []eval.Bind{a}}, {[]eval.Bind{a}, b, []eval.Bind{a, b}}, {[]eval.Bind{b}, a, []eval.Bind{b, a}}, {[]eval.Bind{a}, a, []eval.Bind{a}},
		{[]eval.Bind{a, b, c}, bind("a", 9), []eval.Bind{bind("a", 9), b, c}}, {[]eval.Bind{a, b, c}, bind("b", 9), []eval.Bind{a, bind("b", 9), c}}, {[]eval.Bind{a, b, c}, bind("c", 9), []eval.Bind{a, b, bind("c", 9)}}, {[]eval.Bind{a, b, c}, bind("d", 9), []eval.Bind{a, b, c, bind("d", 9)}},
		{[]eval.Bind{a}, bind("", 9), []eval.Bind{a, bind("", 9)}},
	} {
		for room := range 4 {
			env := make([]eval.Bind, 0, len(row.env)+room)
			env = append(env, row.env...)
			whole := env[:cap(env)]
			for k := len(env); k < len(whole); k++ {
				whole[k] = bind("spare", int64(k))
			}
			was := slices.Clone(whole)
			got := eval.Put(env, row.put.Name, row.put.V)
			if !slices.Equal(got, row.want) {
				t.Errorf("P801: Put %d: %v; want %v", i, got, row.want)
			}
			if v, ok := eval.Get(got, row.put.Name); v != row.put.V || !ok {
				t.Errorf("P801: Put %d: Get: %v, %v", i, v, ok)
			}
			// New memory, its spare room too (P2).
			got = got[:cap(got)]
			for k := range got {
				got[k] = bind("mine", -1)
			}
			if !slices.Equal(whole, was) {
				t.Errorf("P2: Put %d: %v; was %v", i, whole, was)
			}
		}
	}
}

// TestNothingIsChanged: what is handed in, its spare room too, stays as it was, whatever is answered (P2).
func TestNothingIsChanged(t *testing.T) {
	for _, s := range []string{"(f (one ?x) ?*g*)", "(deep 31)", "(deep 32)", "(loop 1)", "(if ?no then 1 else (and 1 (or ?z)))", "(str-cat ?x ?y (+ 1 2))", "(fails)"} {
		m := machine(t, plenty)
		e := roomy(parse(t, s))
		env := append(make([]eval.Bind, 0, 20), someEnv()...)
		for i := range m.Funs {
			for k := range m.Funs[i].Body {
				m.Funs[i].Body[k] = roomy(m.Funs[i].Body[k])
			}
		}
		was := fmt.Sprint(spread(e), env[:cap(env)], m.Globs, m.Funs)
		v, err := m.Eval(e, env)
		if now := fmt.Sprint(spread(e), env[:cap(env)], m.Globs, m.Funs); now != was {
			t.Errorf("P2: %q changed what it was handed", s)
		}
		// And the same again answers the same (P3).
		again, errAgain := m.Eval(e, env)
		if again != v || errAgain != err {
			t.Errorf("P3: %q: %v, %v, then %v, %v", s, v, err, again, errAgain)
		}
	}
	for _, name := range []string{"f", "+", "str-cat", "empty", "twice", "one", "nobody"} {
		l := append(make([]api.Value, 0, 5), val.OfInt(1), val.OfInt(2))
		was := slices.Clone(l[:5])
		m := machine(t, plenty)
		m.Call(name, l)
		if !slices.Equal(l[:5], was) {
			t.Errorf("P2: Call(%q) changed its args", name)
		}
	}
}

// roomy tells e with spare room behind each of its lists.
func roomy(e expr.Expr) expr.Expr {
	kids := make([]expr.Expr, 0, len(e.Kids)+2)
	for _, kid := range e.Kids {
		kids = append(kids, roomy(kid))
	}
	e.Kids = kids
	return e
}

// spread tells e with its spare room laid open.
func spread(e expr.Expr) expr.Expr {
	kids := slices.Clone(e.Kids[:cap(e.Kids)])
	for i := range kids {
		kids[i] = spread(kids[i])
	}
	e.Kids = kids
	return e
}

// TestDeep: Exprs that were not read may be in one another deeper than a stack of calls goes (P1).
func TestDeep(t *testing.T) {
	const depth = 200000
	defer debug.SetMaxStack(debug.SetMaxStack(1 << 20))
	leaf := func(s string) expr.Expr { return expr.Expr{Kind: expr.Const, V: val.OfSym(s)} }
	one := expr.Expr{Kind: expr.Const, V: val.OfInt(1)}
	for i, c := range []struct {
		wrap func(e expr.Expr) expr.Expr
		leaf expr.Expr
		want api.Value
		err  api.Errno
		used int
	}{
		{func(e expr.Expr) expr.Expr { return expr.Expr{Kind: expr.Call, S: "+", Kids: []expr.Expr{one, e}} }, one, val.OfInt(depth + 1), api.OK, 2*depth + 1},
		{func(e expr.Expr) expr.Expr { return expr.Expr{Kind: expr.Call, S: "one", Kids: []expr.Expr{e}} }, one, val.OfInt(1), api.OK, 2*depth + 1},
		{func(e expr.Expr) expr.Expr { return expr.Expr{Kind: expr.And, Kids: []expr.Expr{one, e}} }, leaf("a"), val.OfBool(true), api.OK, 2*depth + 1},
		{func(e expr.Expr) expr.Expr { return expr.Expr{Kind: expr.Or, Kids: []expr.Expr{e, one}} }, leaf("FALSE"), val.OfBool(true), api.OK, depth + 2},
		{func(e expr.Expr) expr.Expr { return expr.Expr{Kind: expr.If, Kids: []expr.Expr{e, one, one}} }, leaf("FALSE"), val.OfInt(1), api.OK, 2*depth + 1},
		{func(e expr.Expr) expr.Expr { return expr.Expr{Kind: expr.If, Kids: []expr.Expr{one, e, one}} }, leaf("a"), val.OfSym("a"), api.OK, 2*depth + 1},
		{func(e expr.Expr) expr.Expr { return expr.Expr{Kind: expr.Call, S: "+", Kids: []expr.Expr{one, e}} }, expr.Expr{Kind: expr.Var, S: "z"}, api.Value{}, api.ErrBound, 2*depth + 1},
	} {
		e := c.leaf
		for range depth {
			e = c.wrap(e)
		}
		m := machine(t, plenty)
		v, err := m.Eval(e, nil)
		if v != c.want || err != c.err || plenty-m.Fuel.Left != c.used {
			t.Errorf("P801: deep %d: %v, %v, %d used; want %v, %v, %d", i, v, err, plenty-m.Fuel.Left, c.want, c.err, c.used)
		}
		// As the body of a function.
		m = &eval.Machine{Funs: append([]eval.Func{{Name: "body", Body: []expr.Expr{e}}}, m.Funs...), Fuel: num.Fuel{Left: 2 * plenty}}
		if v, err := m.Call("body", nil); v != c.want || err != c.err {
			t.Errorf("P801: deep %d, in a body: %v, %v", i, v, err)
		}
	}
}

// TestWide: a call of as many args as there may be uses no more than some steps each.
func TestWide(t *testing.T) {
	e := expr.Expr{Kind: expr.Call, S: "+"}
	for range 300000 {
		e.Kids = append(e.Kids, expr.Expr{Kind: expr.Const, V: val.OfInt(2)})
	}
	m := machine(t, plenty)
	if v, err := m.Eval(e, nil); v != val.OfInt(600000) || err != api.OK || plenty-m.Fuel.Left != 300001 {
		t.Errorf("P801: %v, %v", v, err)
	}
}

// TestAnyExpr: whatever Expr, env and functions are handed in, it is answered, and nothing is changed (P1, P2, P8).
func TestAnyExpr(t *testing.T) {
	kinds := []int{math.MinInt, -1, 0, expr.Const, expr.Var, expr.Glob, expr.Call, expr.If, expr.And, expr.Or, 8, math.MaxInt}
	var l []expr.Expr
	for _, kind := range kinds {
		for _, s := range []string{"", "x", "g", "+", "one", "odd one", "\xff\x00"} {
			e := expr.Expr{Kind: kind, V: api.Value{Kind: -1, I: 2, S: "v"}, S: s}
			for range 6 {
				l = append(l, e)
				e.Kids = append(slices.Clone(e.Kids), e)
			}
		}
	}
	odd := eval.Func{Name: "odd one", Params: []string{"", "x"}, Body: l}
	for i, e := range append(l, expr.Expr{Kind: expr.And, Kids: l}, expr.Expr{Kind: expr.Call, S: "x", Kids: l}) {
		for _, left := range []int{-1, 0, 1, 5, 10000} {
			m := machine(t, left)
			m.Funs = append(m.Funs, odd, eval.Func{})
			v, err := m.Eval(e, []eval.Bind{{}, {Name: "x"}})
			if err != api.OK && v != (api.Value{}) {
				t.Errorf("P4: case %d: %v beside %v", i, v, err)
			}
			if m.Fuel.Left < 0 || left > 0 && m.Fuel.Left == left {
				t.Errorf("P801: case %d: %d of %d left", i, m.Fuel.Left, left)
			}
		}
	}
	// A kind that is none, and an If that Parse does not tell, have no form.
	for _, e := range l {
		known := e.Kind >= expr.Const && e.Kind <= expr.Or
		if known && (e.Kind != expr.If || len(e.Kids) == 3) {
			continue
		}
		m := machine(t, 9)
		if v, err := m.Eval(e, nil); err != api.ErrForm || v != (api.Value{}) || m.Fuel.Left != 8 {
			t.Errorf("P8: kind %d with %d kids: %v, %v", e.Kind, len(e.Kids), v, err)
		}
	}
	// A constant is answered as it stands.
	m := machine(t, 9)
	if v, err := m.Eval(expr.Expr{Kind: expr.Const, V: api.Value{Kind: -1, I: 2, S: "v"}}, nil); v != (api.Value{Kind: -1, I: 2, S: "v"}) || err != api.OK {
		t.Errorf("P801: %v, %v", v, err)
	}
}

// TestZeroMachine: a machine with nothing in it has what is built in.
func TestZeroMachine(t *testing.T) {
	var m eval.Machine
	if v, err := m.Call("max", []api.Value{val.OfInt(3), val.OfInt(4)}); v != val.OfInt(4) || err != api.OK {
		t.Errorf("P801: %v, %v", v, err)
	}
	if v, err := m.Eval(expr.Expr{Kind: expr.And}, nil); v != (api.Value{}) || err != api.ErrFuel {
		t.Errorf("P801: %v, %v", v, err)
	}
	if !reflect.DeepEqual(m, eval.Machine{}) {
		t.Errorf("P801: %v", m)
	}
}
