package built_test

import (
	"fmt"
	"math"
	"math/big"
	"slices"
	"strings"
	"testing"

	"whelk/api"
	"whelk/built"
	"whelk/val"
)

const (
	low  = math.MinInt64
	high = math.MaxInt64
)

// row is a name that is built in, how few and how many args it takes, and whether they must be numbers.
type row struct {
	name        string
	least, most int
	numbers     bool
}

// rows are all that the document names, in its order.
func rows() []row {
	return []row{
		{"+", 0, -1, true}, {"*", 0, -1, true}, {"-", 1, -1, true}, {"div", 2, 2, true}, {"mod", 2, 2, true}, {"abs", 1, 1, true}, {"min", 1, -1, true}, {"max", 1, -1, true},
		{"=", 2, 2, true}, {"<>", 2, 2, true}, {"<", 2, -1, true}, {"<=", 2, -1, true}, {">", 2, -1, true}, {">=", 2, -1, true},
		{"eq", 2, 2, false}, {"neq", 2, 2, false}, {"not", 1, 1, false}, {"sym-cat", 1, -1, false}, {"str-cat", 0, -1, false}, {"length", 1, 1, false}, {"type", 1, 1, false},
	}
}

// strangers are names of nothing that is built in.
func strangers() []string {
	return []string{"", " ", "and", "or", "if", "then", "else", "foo", "ABS", "Abs", "abs ", " abs", "ab", "abss", "sym", "cat", "symcat", "sym_cat", "str-", "==", "=<", "=>", "!=", "<<", "/", "**", "+-", "--", "1", "TRUE", "INTEGER", "\x00", "+\x00", "\xff", strings.Repeat("+", 70000)}
}

// odd are values that are no numbers, some of them none at all.
func odd() []api.Value {
	return []api.Value{val.OfSym("a"), val.OfSym("1"), val.OfBool(true), val.OfStr(""), val.OfStr("1"), {}, {I: 1}, {Kind: -1, I: 1}, {Kind: 4, I: 1}, {Kind: math.MinInt}, {Kind: math.MaxInt, I: 1}}
}

func ints(l ...int64) []api.Value {
	var values []api.Value
	for _, n := range l {
		values = append(values, val.OfInt(n))
	}
	return values
}

func values(l ...api.Value) []api.Value { return l }

// brief tells as much of a thing as a line has room for.
func brief(thing any) string {
	s := fmt.Sprintf("%q", fmt.Sprint(thing))
	return s[:min(len(s), 80)]
}

// answers asks that name makes want of l.
func answers(t *testing.T, name string, l []api.Value, want api.Value) {
	t.Helper()
	if v, err := built.Apply(name, l); v != want || err != api.OK {
		t.Errorf("P601: %s of %s: %s, %v, not %s", name, brief(l), brief(v), err, brief(want))
	}
}

// refuses asks that name makes nothing of l, and why.
func refuses(t *testing.T, name string, l []api.Value, want api.Errno) {
	t.Helper()
	if v, err := built.Apply(name, l); v != (api.Value{}) || err != want {
		t.Errorf("P601: %.20q of %s: %s, %v, not %v", name, brief(l), brief(v), err, want)
	}
}

func TestNames(t *testing.T) {
	var want []string
	for _, r := range rows() {
		want = append(want, r.name)
		least, most := built.Arity(r.name)
		if !built.Known(r.name) || least != r.least || most != r.most {
			t.Errorf("P601: %s: %t, %d, %d", r.name, built.Known(r.name), least, most)
		}
	}
	slices.Sort(want)
	if got := built.Names(); !slices.Equal(got, want) {
		t.Errorf("P601: Names: %v, not %v", got, want)
	}
	for _, name := range strangers() {
		least, most := built.Arity(name)
		if built.Known(name) || least != 0 || most != 0 {
			t.Errorf("P601: %.20q: %t, %d, %d", name, built.Known(name), least, most)
		}
	}
}

// TestNamesIsNew: each answer is memory of its own, its spare room too (P2).
func TestNamesIsNew(t *testing.T) {
	was := slices.Clone(built.Names())
	first := built.Names()
	first = first[:cap(first)]
	for i := range first {
		first[i] = "foo"
	}
	if got := built.Names(); !slices.Equal(got, was) || built.Known("foo") || !built.Known("+") {
		t.Errorf("P601: Names, once an answer was changed: %v", got)
	}
}

// TestNoName: a name that is none goes ahead of how many args there are, and of what they are.
func TestNoName(t *testing.T) {
	for _, name := range strangers() {
		refuses(t, name, nil, api.ErrName)
		refuses(t, name, ints(1), api.ErrName)
		refuses(t, name, ints(1, 0), api.ErrName)
		refuses(t, name, odd(), api.ErrName)
	}
}

// TestHowMany: too few and too many args are refused, ahead of what they are; else they are not.
func TestHowMany(t *testing.T) {
	for _, r := range rows() {
		for count := range 6 {
			one := val.OfSym("a")
			if r.numbers {
				one = val.OfInt(1)
			} else if r.name == "length" {
				one = val.OfStr("a")
			}
			if count < r.least || r.most >= 0 && count > r.most {
				refuses(t, r.name, slices.Repeat(values(one), count), api.ErrArg)
				refuses(t, r.name, slices.Repeat(values(val.OfStr("a b")), count), api.ErrArg)
				refuses(t, r.name, make([]api.Value, count), api.ErrArg)
			} else if _, err := built.Apply(r.name, slices.Repeat(values(one), count)); err != api.OK {
				t.Errorf("P601: %s of %d: %v", r.name, count, err)
			}
		}
		// No list and an empty one are the same.
		v, err := built.Apply(r.name, nil)
		if w, e := built.Apply(r.name, values()); v != w || err != e {
			t.Errorf("P601: %s of no list: %v, %v; of an empty one: %v, %v", r.name, v, err, w, e)
		}
	}
	for _, r := range rows() {
		if r.most < 0 && r.name != "sym-cat" && r.name != "str-cat" {
			if _, err := built.Apply(r.name, ints(make([]int64, 10000)...)); err != api.OK {
				t.Errorf("P601: %s of 10000: %v", r.name, err)
			}
		}
	}
}

// TestNumbersAlone: one arg that is no number, wherever it stands, is refused ahead of what the others make.
func TestNumbersAlone(t *testing.T) {
	for _, r := range rows() {
		if !r.numbers {
			continue
		}
		for count := max(r.least, 1); count <= 4 && (r.most < 0 || count <= r.most); count++ {
			for place := range count {
				for _, v := range odd() {
					for _, others := range []int64{0, 1, low, high} {
						l := slices.Repeat(ints(others), count)
						l[place] = v
						refuses(t, r.name, l, api.ErrType)
					}
				}
			}
		}
	}
	refuses(t, "div", values(val.OfSym("a"), val.OfInt(0)), api.ErrType)
	refuses(t, "div", values(val.OfInt(low), val.OfSym("a")), api.ErrType)
	refuses(t, "+", values(val.OfInt(high), val.OfInt(1), val.OfStr("1")), api.ErrType)
	refuses(t, "<", values(val.OfInt(2), val.OfInt(1), val.OfStr("1")), api.ErrType)
	refuses(t, "min", values(val.OfStr("")), api.ErrType)
}

func TestReckoned(t *testing.T) {
	for _, c := range []struct {
		name string
		l    []api.Value
		want int64
	}{
		{"+", nil, 0}, {"+", ints(5), 5}, {"+", ints(1, 2, -5), -2}, {"+", ints(low), low}, {"+", ints(high, low, 1), 0}, {"+", ints(high, -1, 1), high},
		{"*", nil, 1}, {"*", ints(5), 5}, {"*", ints(3, -4, 2), -24}, {"*", ints(low), low}, {"*", ints(0, high, high), 0}, {"*", ints(low, 1), low},
		{"-", ints(5), -5}, {"-", ints(-5), 5}, {"-", ints(0), 0}, {"-", ints(high), -high}, {"-", ints(5, 2), 3}, {"-", ints(5, 2, 1), 2}, {"-", ints(low, low), 0}, {"-", ints(low, 0), low}, {"-", ints(-1, low), high}, {"-", ints(1, 2, 3, 4), -8},
		{"div", ints(7, 2), 3}, {"div", ints(7, -2), -3}, {"div", ints(-7, 2), -3}, {"div", ints(-7, -2), 3}, {"div", ints(0, 5), 0}, {"div", ints(low, 1), low},
		{"mod", ints(7, 2), 1}, {"mod", ints(7, -2), 1}, {"mod", ints(-7, 2), -1}, {"mod", ints(-7, -2), -1}, {"mod", ints(low, -1), 0}, {"mod", ints(2, 7), 2},
		{"abs", ints(4), 4}, {"abs", ints(-4), 4}, {"abs", ints(0), 0}, {"abs", ints(high), high}, {"abs", ints(-high), high}, {"abs", ints(1), 1}, {"abs", ints(-1), 1},
		{"min", ints(3), 3}, {"min", ints(3, -1, 2), -1}, {"min", ints(1, 2, 3), 1}, {"min", ints(3, 2, 1), 1}, {"min", ints(high, low, 0), low}, {"min", ints(9, 10), 9}, {"min", ints(2, 2), 2},
		{"max", ints(-3), -3}, {"max", ints(3, -1, 2), 3}, {"max", ints(1, 2, 3), 3}, {"max", ints(3, 2, 1), 3}, {"max", ints(low, high, 0), high}, {"max", ints(9, 10), 10}, {"max", ints(-2, -1), -1},
	} {
		answers(t, c.name, c.l, val.OfInt(c.want))
	}
	for _, c := range []struct {
		name string
		l    []api.Value
	}{
		{"+", ints(high, 1)}, {"+", ints(low, -1)}, {"+", ints(high, 1, -1)}, {"+", ints(0, 0, low, low)},
		{"*", ints(high, 2)}, {"*", ints(low, -1)}, {"*", ints(high, 2, 0)}, {"*", ints(1<<32, 1<<32, 0)},
		{"-", ints(low)}, {"-", ints(0, low)}, {"-", ints(low, 1)}, {"-", ints(low, 1, -1)}, {"-", ints(high, -1)},
		{"div", ints(1, 0)}, {"div", ints(0, 0)}, {"div", ints(low, -1)}, {"mod", ints(1, 0)}, {"mod", ints(low, 0)}, {"abs", ints(low)},
	} {
		refuses(t, c.name, c.l, api.ErrRange)
	}
}

// TestFromTheLeft holds sums, differences and products of all triples of edges against wide numbers: where one on the way is no number, there is none.
func TestFromTheLeft(t *testing.T) {
	edges := []int64{low, low + 1, low / 2, -3037000500, -2, -1, 0, 1, 2, 3037000499, high / 2, high - 1, high}
	for _, c := range []struct {
		name string
		wide func(z, a, b *big.Int) *big.Int
	}{{"+", (*big.Int).Add}, {"*", (*big.Int).Mul}, {"-", (*big.Int).Sub}} {
		for _, x := range edges {
			for _, y := range edges {
				for _, z := range edges {
					first := c.wide(new(big.Int), big.NewInt(x), big.NewInt(y))
					last := c.wide(new(big.Int), first, big.NewInt(z))
					if first.IsInt64() && last.IsInt64() {
						answers(t, c.name, ints(x, y, z), val.OfInt(last.Int64()))
					} else {
						refuses(t, c.name, ints(x, y, z), api.ErrRange)
					}
				}
			}
		}
	}
}

// TestStands holds the comparisons of all short lists over a few numbers against their meaning.
func TestStands(t *testing.T) {
	meaning := map[string]func(a, b int64) bool{
		"=": func(a, b int64) bool { return a == b }, "<>": func(a, b int64) bool { return a != b },
		"<": func(a, b int64) bool { return a < b }, "<=": func(a, b int64) bool { return a <= b },
		">": func(a, b int64) bool { return a > b }, ">=": func(a, b int64) bool { return a >= b },
	}
	few := []int64{low, -1, 0, 9, 10, high}
	lists := [][]int64{nil}
	for i := 0; i < len(lists); i++ {
		l := lists[i]
		if len(l) < 4 {
			for _, n := range few {
				lists = append(lists, append(slices.Clone(l), n))
			}
		}
		for name, stands := range meaning {
			_, most := built.Arity(name)
			if len(l) < 2 || most == 2 && len(l) > 2 {
				refuses(t, name, ints(l...), api.ErrArg)
				continue
			}
			want := true
			for k := range len(l) - 1 {
				want = want && stands(l[k], l[k+1])
			}
			answers(t, name, ints(l...), val.OfBool(want))
		}
	}
	answers(t, "<", ints(1, 2, 3), val.OfSym("TRUE"))
	answers(t, ">=", ints(3, 3, 4), val.OfSym("FALSE"))
	// Neighbours alone are asked: 1 and 1 are none here.
	answers(t, "<", ints(1, 2, 1), val.OfSym("FALSE"))
	answers(t, "<=", ints(1, 1, 2, 2), val.OfSym("TRUE"))
}

// TestSame: eq and neq of all pairs of values, right ones or not, and not of each.
func TestSame(t *testing.T) {
	l := append(odd(), val.OfInt(0), val.OfInt(1), val.OfInt(-1), val.OfInt(low), val.OfBool(false), val.OfSym("false"), val.OfSym("FALS"), val.OfStr("FALSE"), val.OfSym("A"), val.OfStr("a"), val.OfSym("aa"), api.Value{Kind: api.Int, S: "FALSE"}, api.Value{Kind: api.Sym, I: 1, S: "FALSE"})
	for i, a := range l {
		for k, b := range l {
			answers(t, "eq", values(a, b), val.OfBool(i == k))
			answers(t, "neq", values(a, b), val.OfBool(i != k))
		}
		answers(t, "not", values(a), val.OfBool(a == val.OfSym("FALSE")))
	}
	answers(t, "eq", values(val.OfInt(1), val.OfStr("1")), val.OfSym("FALSE"))
	answers(t, "eq", values(val.OfStr("abc"), val.OfStr(strings.Join([]string{"a", "bc"}, ""))), val.OfSym("TRUE"))
	answers(t, "not", values(val.OfSym("FALSE")), val.OfSym("TRUE"))
	answers(t, "not", values(val.OfSym("TRUE")), val.OfSym("FALSE"))
}

func TestSymCat(t *testing.T) {
	sym, str, n, times := val.OfSym, val.OfStr, val.OfInt, strings.Repeat
	for _, c := range []struct {
		want string
		l    []api.Value
	}{
		{"a", values(sym("a"))}, {"a", values(str("a"))}, {"ab", values(sym("a"), sym("b"))}, {"ba", values(sym("b"), sym("a"))}, {"a1b", values(sym("a"), n(1), str("b"))}, {"a-1", values(sym("a"), n(-1))}, {"1a", values(n(1), sym("a"))},
		{"a", values(str(""), sym("a"), str(""))}, {"-", values(str("-"))}, {"--1", values(sym("-"), n(-1))}, {"1-1", values(n(1), n(-1))}, {"-1x", values(sym("-"), n(1), str("x"))}, {"TRUE", values(str("TR"), str("UE"))}, {`a\b`, values(str("a"), str(`\`), str("b"))},
		{"x-9223372036854775808", values(sym("x"), n(low))},
		{times("x", 40), values(sym(times("x", 40)))}, {times("x", 40), values(str(times("x", 39)), sym("x"))}, {times("x", 40), slices.Repeat(values(sym("x")), 40)},
		{times("x", 40), append(slices.Repeat(values(sym("x")), 40), slices.Repeat(values(str("")), 2000)...)},
	} {
		answers(t, "sym-cat", c.l, sym(c.want))
	}
	for _, l := range [][]api.Value{
		values(str("")), values(str(""), str("")), values(n(1)), values(n(1), n(2)), values(n(-1), n(2)), values(sym("-"), n(1)), values(sym("+"), str("1")), values(str("-"), str("9223372036854775809")), values(str("a b")), values(sym("a"), str(" ")), values(str("a\n")), values(str("a"), str("("), str("b")), values(str("\"")), values(str("\u00e9")), values(str("\x00")), values(str("\xff")),
		values(str(times("(", 40))), values(str(times("9", 40))), values(n(low), n(high)),
	} {
		refuses(t, "sym-cat", l, api.ErrForm)
	}
	for _, l := range [][]api.Value{
		values(sym(times("x", 41))), values(str(times("(", 41))), values(str(times("9", 41))), values(str(times(" ", 20)), str(times("x", 21))), values(sym(times("x", 40)), n(0)), values(n(0), sym(times("x", 40))), values(sym(times("x", 40)), str(" ")), values(str(times("\u00e9", 21))), slices.Repeat(values(sym("x")), 41), slices.Repeat(values(n(low)), 3), values(str(times("x", 1001))), values(sym("a"), str(times("x", 100000)), sym("b")),
	} {
		refuses(t, "sym-cat", l, api.ErrLong)
	}
}

// TestSymCatBytes: which of all bytes make a symbol, alone and between others.
func TestSymCatBytes(t *testing.T) {
	for i := range 256 {
		s := string([]byte{byte(i)})
		for _, l := range [][]api.Value{values(val.OfStr(s)), values(val.OfSym("a"), val.OfStr(s), val.OfInt(1)), values(val.OfStr(s), val.OfInt(1))} {
			want := val.OfSym("")
			for _, v := range l {
				if v.Kind == api.Int {
					v.S = "1"
				}
				want.S += v.S
			}
			if val.Right(want) {
				answers(t, "sym-cat", l, want)
			} else {
				refuses(t, "sym-cat", l, api.ErrForm)
			}
		}
	}
}

func TestStrCat(t *testing.T) {
	sym, str, n, times := val.OfSym, val.OfStr, val.OfInt, strings.Repeat
	for _, c := range []struct {
		want string
		l    []api.Value
	}{
		{"", nil}, {"", values(str(""))}, {"a", values(sym("a"))}, {"1", values(n(1))}, {"12", values(n(1), n(2))}, {"a -1", values(sym("a"), str(" "), n(-1))}, {"ba", values(str("b"), str("a"))}, {"-92233720368547758089223372036854775807", values(n(low), n(high))},
		{`a"b\c`, values(str(`a"`), str(`b\c`))}, {`a\b`, values(sym(`a\b`))}, {"\x00\xff\n", values(str("\x00"), str("\xff\n"))}, {"\u00e9", values(str("\xc3"), str("\xa9"))}, {"TRUE", values(val.OfBool(true))},
		{times("x", 1000), values(str(times("x", 1000)))}, {times("x", 999) + "1", values(str(times("x", 999)), n(1))}, {times("x", 1000), slices.Repeat(values(sym("x")), 1000)}, {times("(", 1000), values(str(times("(", 500)), str(times("(", 500)), str(""))}, {times(`"`, 1000), values(str(times(`"`, 1000)))},
	} {
		answers(t, "str-cat", c.l, str(c.want))
	}
	for _, l := range [][]api.Value{
		values(str(times("x", 1001))), values(str(times("x", 999)), n(12)), values(str(times("x", 999)), n(-1)), values(n(0), str(times("x", 1000))), values(str(times("\u00e9", 500)), sym("a")), slices.Repeat(values(sym("x")), 1001), slices.Repeat(values(str(times("x", 1000))), 1000), values(str(times("x", 1001)), str("")), values(str(times("x", 100000))),
	} {
		refuses(t, "str-cat", l, api.ErrLong)
	}
}

func TestLength(t *testing.T) {
	for s, want := range map[string]int64{"": 0, "a": 1, "abc": 3, "a b\n": 4, `"\`: 2, "\u00e9": 2, "\U0001f41a": 4, "\xff": 1, "\x00\x00": 2, strings.Repeat("x", 1000): 1000} {
		answers(t, "length", values(val.OfStr(s)), val.OfInt(want))
	}
	for _, v := range []api.Value{val.OfInt(0), val.OfInt(12), val.OfSym("a"), val.OfBool(true), {Kind: api.Int, S: "a"}, {}, {S: "a"}, {Kind: 4, S: "a"}, {Kind: -1, S: "a"}} {
		refuses(t, "length", values(v), api.ErrType)
	}
}

func TestType(t *testing.T) {
	for _, c := range []struct {
		v    api.Value
		want string
	}{
		{val.OfInt(0), "INTEGER"}, {val.OfInt(low), "INTEGER"}, {val.OfSym("a"), "SYMBOL"}, {val.OfSym("INTEGER"), "SYMBOL"}, {val.OfBool(false), "SYMBOL"}, {val.OfStr(""), "STRING"}, {val.OfStr("1"), "STRING"}, {val.OfStr("a"), "STRING"},
	} {
		answers(t, "type", values(c.v), val.OfSym(c.want))
	}
	for _, v := range []api.Value{{}, {I: 1, S: "a"}, {Kind: -1}, {Kind: 4}, {Kind: math.MaxInt}} {
		refuses(t, "type", values(v), api.ErrType)
	}
}

// TestAnswersAreRight: whatever right values go in, a right value comes out, or none and an error (P4).
func TestAnswersAreRight(t *testing.T) {
	few := []api.Value{val.OfInt(0), val.OfInt(-1), val.OfInt(low), val.OfInt(high), val.OfSym("a"), val.OfSym("-"), val.OfBool(false), val.OfStr(""), val.OfStr("a b"), val.OfStr("7"), val.OfStr(strings.Repeat("x", 1000))}
	for _, r := range rows() {
		lists := [][]api.Value{nil}
		for i := 0; i < len(lists); i++ {
			v, err := built.Apply(r.name, lists[i])
			if again, e := built.Apply(r.name, slices.Clone(lists[i])); again != v || e != err {
				t.Errorf("P601: %s of %s: %s, %v, and then %s, %v", r.name, brief(lists[i]), brief(v), err, brief(again), e)
			}
			if (err == api.OK) != val.Right(v) || err != api.OK && v != (api.Value{}) {
				t.Errorf("P601: %s of %s: %s, %v", r.name, brief(lists[i]), brief(v), err)
			}
			if len(lists[i]) < 3 {
				for _, next := range few {
					lists = append(lists, append(slices.Clone(lists[i]), next))
				}
			}
		}
	}
}

// TestWrongFieldsStayBehind: what an arg holds beside its kind's own field is not in an answer (P4).
func TestWrongFieldsStayBehind(t *testing.T) {
	n, s := api.Value{Kind: api.Int, I: 7, S: "x"}, api.Value{Kind: api.Str, I: 7, S: "x"}
	for _, name := range []string{"+", "*", "abs", "min", "max"} {
		answers(t, name, values(n), val.OfInt(7))
	}
	answers(t, "-", values(n), val.OfInt(-7))
	answers(t, "sym-cat", values(s), val.OfSym("x"))
	answers(t, "str-cat", values(s, n), val.OfStr("x7"))
	answers(t, "length", values(s), val.OfInt(1))
}

// TestTakesNothing: no call changes its args, nor their spare room (P2).
func TestTakesNothing(t *testing.T) {
	for _, r := range rows() {
		for _, room := range [][]api.Value{ints(3, 1, 2, 9, 8, 7), values(val.OfStr("c"), val.OfStr("a"), val.OfStr("b"), val.OfStr("spare"), val.OfStr("room"), val.OfInt(1))} {
			was := slices.Clone(room)
			for count := range 4 {
				built.Apply(r.name, room[:count])
			}
			if !slices.Equal(room, was) {
				t.Errorf("P601: %s changed its args: %v, not %v", r.name, room, was)
			}
		}
	}
}

// TestAnythingIsAnswered: no call panics, whatever values it is handed (P1).
func TestAnythingIsAnswered(t *testing.T) {
	var l []api.Value
	for _, kind := range []int{math.MinInt, -1, 0, api.Int, api.Sym, api.Str, 4, math.MaxInt} {
		for _, i := range []int64{low, 0, high} {
			for _, s := range []string{"", "x", "\xff\x00\"\\", strings.Repeat("9", 2000)} {
				l = append(l, api.Value{Kind: kind, I: i, S: s})
			}
		}
	}
	for _, r := range rows() {
		built.Apply(r.name, l)
		for _, a := range l {
			built.Apply(r.name, values(a))
			for _, b := range l {
				if v, err := built.Apply(r.name, values(a, b)); err != api.OK && v != (api.Value{}) {
					t.Fatalf("P601: %s: %s beside %v", r.name, brief(v), err)
				}
			}
		}
	}
}
