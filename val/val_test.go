package val_test

import (
	"math"
	"slices"
	"strings"
	"testing"

	"whelk/api"
	"whelk/val"
)

const (
	low  = math.MinInt64
	high = math.MaxInt64
)

// rising are values, each behind the one ahead of it; some of them no program would make.
func rising() []api.Value {
	return []api.Value{
		{Kind: math.MinInt}, {Kind: -1, I: 5, S: "x"},
		{}, {S: "x"}, {I: 1},
		{Kind: api.Int, I: low}, {Kind: api.Int, I: -10}, {Kind: api.Int, I: -9}, {Kind: api.Int, I: -1},
		{Kind: api.Int}, {Kind: api.Int, S: "x"},
		{Kind: api.Int, I: 1}, {Kind: api.Int, I: 2}, {Kind: api.Int, I: 10}, {Kind: api.Int, I: 1 << 32}, {Kind: api.Int, I: high},
		{Kind: api.Sym, I: -1, S: "z"},
		{Kind: api.Sym, S: "+"}, {Kind: api.Sym, S: "A"}, {Kind: api.Sym, S: "FALSE"}, {Kind: api.Sym, S: "TRUE"}, {Kind: api.Sym, S: "a"},
		{Kind: api.Sym, S: "a-b"}, {Kind: api.Sym, S: "aa"}, {Kind: api.Sym, S: "b"},
		{Kind: api.Sym, I: 1, S: "FALSE"},
		{Kind: api.Str}, {Kind: api.Str, S: "\x00"}, {Kind: api.Str, S: "\x00\x00"}, {Kind: api.Str, S: "1"}, {Kind: api.Str, S: "10"},
		{Kind: api.Str, S: "9"}, {Kind: api.Str, S: "FALSE"}, {Kind: api.Str, S: "\u00e9"}, {Kind: api.Str, S: "\uffff"}, {Kind: api.Str, S: "\U00010000"}, {Kind: api.Str, S: "\xff"},
		{Kind: api.Str, I: 1},
		{Kind: 4}, {Kind: math.MaxInt},
	}
}

func TestOf(t *testing.T) {
	for _, c := range []struct {
		name      string
		got, want api.Value
	}{
		{"OfInt(0)", val.OfInt(0), api.Value{Kind: api.Int}},
		{"OfInt of the least", val.OfInt(low), api.Value{Kind: api.Int, I: low}},
		{"OfInt of the greatest", val.OfInt(high), api.Value{Kind: api.Int, I: high}},
		{"OfSym(a)", val.OfSym("a"), api.Value{Kind: api.Sym, S: "a"}},
		{"OfSym of what is none", val.OfSym("a b"), api.Value{Kind: api.Sym, S: "a b"}},
		{"OfStr(a)", val.OfStr("a"), api.Value{Kind: api.Str, S: "a"}},
		{"OfStr of nothing", val.OfStr(""), api.Value{Kind: api.Str}},
		{"OfBool(true)", val.OfBool(true), api.Value{Kind: api.Sym, S: "TRUE"}},
		{"OfBool(false)", val.OfBool(false), api.Value{Kind: api.Sym, S: "FALSE"}},
	} {
		if c.got != c.want {
			t.Errorf("P301: %s: %#v, not %#v", c.name, c.got, c.want)
		}
	}
}

// TestOrder: Compare and Same of each pair, among values of all kinds and none.
func TestOrder(t *testing.T) {
	l := rising()
	for i, a := range l {
		for k, b := range l {
			want := 0
			if i < k {
				want = -1
			} else if i > k {
				want = 1
			}
			if got := val.Compare(a, b); got != want {
				t.Errorf("P301: Compare(%#v, %#v): %d, not %d", a, b, got, want)
			}
			if val.Same(a, b) != (i == k) {
				t.Errorf("P301: Same(%#v, %#v): %t", a, b, i != k)
			}
		}
	}
}

// TestSameText: values are the same by what their texts hold, wherever these stand.
func TestSameText(t *testing.T) {
	a, b := val.OfStr("abc"), val.OfStr(strings.Join([]string{"a", "bc"}, ""))
	if !val.Same(a, b) || val.Compare(a, b) != 0 || val.Hash([]api.Value{a}) != val.Hash([]api.Value{b}) {
		t.Error("P301: one string, made twice, is two")
	}
}

// TestTrue: of all values, just the symbol FALSE is not true.
func TestTrue(t *testing.T) {
	for _, v := range append(rising(), val.OfSym("false"), val.OfSym("FALSE1"), val.OfSym("nil"), val.OfSym("")) {
		want := v.Kind != api.Sym || v.I != 0 || v.S != "FALSE"
		if val.True(v) != want {
			t.Errorf("P301: True(%#v): %t", v, !want)
		}
	}
	if !val.True(val.OfBool(true)) || val.True(val.OfBool(false)) {
		t.Error("P301: True of OfBool")
	}
}

func TestRight(t *testing.T) {
	long := strings.Repeat
	for _, v := range []api.Value{
		val.OfInt(0), val.OfInt(-1), val.OfInt(low), val.OfInt(high),
		val.OfBool(true), val.OfBool(false),
		val.OfSym("a"), val.OfSym("+"), val.OfSym("-"), val.OfSym("*"), val.OfSym("=>"), val.OfSym("<="), val.OfSym("a\\b"), val.OfSym("&"), val.OfSym("|"), val.OfSym(":"),
		val.OfSym("12x"), val.OfSym("-12x"), val.OfSym("x12"), val.OfSym("+-1"), val.OfSym("--1"), val.OfSym("1-"), val.OfSym("1+1"), val.OfSym("1.5"), val.OfSym("1e3"), val.OfSym("0x10"), val.OfSym("1_000"),
		val.OfSym(long("x", 39)), val.OfSym(long("x", 40)), val.OfSym(long("9", 39) + "x"),
		val.OfStr(""), val.OfStr("a b"), val.OfStr("12"), val.OfStr("(\"\\;?~)\n\x00\xff"), val.OfStr("\u00e9"),
		val.OfStr(long("x", 41)), val.OfStr(long("x", 999)), val.OfStr(long("x", 1000)), val.OfStr(long("\u00e9", 500)),
	} {
		if !val.Right(v) {
			t.Errorf("P301: Right(%#v): false", v)
		}
	}
	for _, v := range []api.Value{
		{Kind: api.Int, S: "x"}, {Kind: api.Int, I: 5, S: "5"}, {Kind: api.Int, S: "\x00"},
		{Kind: api.Sym, I: 1, S: "a"}, {Kind: api.Sym, I: -1, S: "a"}, {Kind: api.Sym, I: 1},
		val.OfSym(""), val.OfSym("a b"), val.OfSym(" a"), val.OfSym("a\n"), val.OfSym("\u00e9"), val.OfSym("(a)"), val.OfSym("?a"), val.OfSym("~a"), val.OfSym("\"a\""), val.OfSym("a;b"),
		val.OfSym("0"), val.OfSym("12"), val.OfSym("-12"), val.OfSym("+12"), val.OfSym("-0"), val.OfSym("007"), val.OfSym("9223372036854775808"), val.OfSym("-9223372036854775809"), val.OfSym(long("9", 40)), val.OfSym("-" + long("0", 39)),
		val.OfSym(long("x", 41)), val.OfSym(long("x", 1000)), val.OfSym(long("x", 1001)), val.OfSym(long("\u00e9", 20)),
		{Kind: api.Str, I: 1}, {Kind: api.Str, I: -1, S: "a"}, {Kind: api.Str, I: low},
		val.OfStr(long("x", 1001)), val.OfStr(long("\u00e9", 501)), val.OfStr(long("\n", 70000)),
		{}, {I: 1}, {S: "a"}, {Kind: 4}, {Kind: 4, S: "a"}, {Kind: -1}, {Kind: math.MinInt}, {Kind: math.MaxInt},
	} {
		if val.Right(v) {
			t.Errorf("P301: Right(%#v): true", v)
		}
	}
}

// TestRightBytes: which of all bytes may stand in a symbol, in each place; in a string all may.
func TestRightBytes(t *testing.T) {
	for i := range 256 {
		b := byte(i)
		want := 33 <= b && b <= 126 && strings.IndexByte("()\";?~", b) < 0
		digit := '0' <= b && b <= '9'
		for _, c := range []struct {
			s    []byte
			want bool
		}{
			{[]byte{b}, want && !digit}, {[]byte{b, 'a'}, want}, {[]byte{'a', b}, want}, {[]byte{'a', b, 'a'}, want},
			{[]byte{b, '1'}, want && !digit && b != '+' && b != '-'}, {[]byte{'1', b}, want && !digit}, {[]byte{'-', b}, want && !digit},
		} {
			if val.Right(val.OfSym(string(c.s))) != c.want {
				t.Errorf("P301: Right of the symbol %q: %t", c.s, !c.want)
			}
			if !val.Right(val.OfStr(string(c.s))) {
				t.Errorf("P301: Right of the string %q: false", c.s)
			}
		}
	}
}

func TestText(t *testing.T) {
	for _, c := range []struct {
		v api.Value
		s string
	}{
		{val.OfInt(0), "0"}, {val.OfInt(7), "7"}, {val.OfInt(-7), "-7"}, {val.OfInt(low), "-9223372036854775808"}, {val.OfInt(high), "9223372036854775807"},
		{val.OfSym("a-b"), "a-b"}, {val.OfSym("a\\b"), "a\\b"}, {val.OfBool(true), "TRUE"}, {val.OfBool(false), "FALSE"},
		{val.OfStr(""), `""`}, {val.OfStr("7"), `"7"`}, {val.OfStr("a b"), `"a b"`}, {val.OfStr(`a"b\`), `"a\"b\\"`},
	} {
		if s := val.Text(c.v); s != c.s {
			t.Errorf("P301: Text(%#v): %q, not %q", c.v, s, c.s)
		}
	}
}

func TestQuote(t *testing.T) {
	for _, c := range []struct{ s, want string }{
		{``, `""`}, {`x`, `"x"`}, {`a b`, `"a b"`}, {`"`, `"\""`}, {`\`, `"\\"`}, {`\"`, `"\\\""`}, {`"x"`, `"\"x\""`}, {`\\n`, `"\\\\n"`},
		{"\n\t\r\x00", "\"\n\t\r\x00\""}, {"\u00e9\U0001f41a", "\"\u00e9\U0001f41a\""}, {"\xff\xc3", "\"\xff\xc3\""}, {`'()`, `"'()"`},
		{strings.Repeat(`"`, 2000), `"` + strings.Repeat(`\"`, 2000) + `"`},
	} {
		if s := val.Quote(c.s); s != c.want {
			t.Errorf("P301: Quote(%q): %q, not %q", c.s, s, c.want)
		}
	}
}

// TestQuoteBytes: just two of all bytes have one ahead of them; the rest stand as they are.
func TestQuoteBytes(t *testing.T) {
	for i := range 256 {
		s := string([]byte{byte(i)})
		want := `"` + s + `"`
		if s == `"` || s == `\` {
			want = `"\` + s + `"`
		}
		if got := val.Quote(s); got != want {
			t.Errorf("P301: Quote(%q): %q, not %q", s, got, want)
		}
	}
}

// tricky are lists that a text made carelessly would mix up.
func tricky() [][]api.Value {
	str, sym, n := val.OfStr, val.OfSym, val.OfInt
	l := [][]api.Value{
		nil,
		{n(1), n(1)}, {n(11)}, {n(1), n(11)}, {n(11), n(1)}, {n(111)}, {n(1), n(-1)}, {n(-1), n(1)}, {n(1), n(1), n(1)},
		{sym("1"), n(1)}, {n(1), sym("1")}, {str("1"), n(1)}, {sym("1"), str("1")}, {str("1"), sym("1")},
		{str("a"), str("b")}, {str("b"), str("a")}, {str("ab")}, {str("a"), str(""), str("b")}, {str(""), str("ab")}, {str("ab"), str("")}, {str(""), str("")}, {str(""), str(""), str("")},
		{str("a b")}, {str("a,b")}, {str("a\x00b")}, {str("a\x00"), str("b")}, {str("a"), str("\x00b")}, {str("a\"b")}, {str("a\" \"b")},
		{str("3 0 0 ")}, {str("13 0 0 ")}, {str("3"), str("0"), str("0")},
		{{}, {}}, {{}, {}, {}}, {{}, {Kind: 1}}, {{Kind: 1}, {}}, {{Kind: 10}, {Kind: 1}}, {{Kind: 1, I: 10}, {Kind: 1}},
	}
	for _, v := range rising() {
		l = append(l, []api.Value{v})
	}
	return append(l, forged()...)
}

// forged are lists of two values, and lists of one that has the text of the second one within: where a value ends must not hang on what it holds.
func forged() [][]api.Value {
	var l [][]api.Value
	for size := range 30 {
		last := val.OfStr(strings.Repeat("x", size))
		h := val.Hash([]api.Value{last})
		for _, kind := range []int{api.Sym, api.Str, 10*api.Str + 1} {
			for _, i := range []int64{0, 1, 10, 11, 111} {
				for _, s := range []string{"", "1", " "} {
					l = append(l, []api.Value{{Kind: kind, I: i, S: s}, last}, []api.Value{{Kind: kind, I: i, S: s + h}})
				}
			}
		}
	}
	return l
}

func TestHash(t *testing.T) {
	had := map[string]int{}
	l := tricky()
	for i, v := range l {
		h := val.Hash(v)
		if k, is := had[h]; is && !slices.Equal(l[k], v) {
			t.Errorf("P301: Hash of %#v and of %#v: %q", l[k], v, h)
		}
		had[h] = i
		if again := val.Hash(slices.Clone(v)); again != h {
			t.Errorf("P301: Hash(%#v): %q, and then %q", v, h, again)
		}
	}
	if val.Hash(nil) != val.Hash([]api.Value{}) {
		t.Error("P301: Hash of no list and of an empty one")
	}
}

// TestHashAll: all short lists over a few values whose texts run into one another.
func TestHashAll(t *testing.T) {
	few := []api.Value{val.OfInt(1), val.OfInt(11), val.OfSym("1"), val.OfSym("11"), val.OfStr(""), val.OfStr("1"), val.OfStr("1 1"), val.OfStr(" "), {}, {Kind: 11}}
	had := map[string]int{}
	lists := [][]api.Value{nil}
	for i := 0; i < len(lists); i++ {
		v := lists[i]
		h := val.Hash(v)
		if k, is := had[h]; is {
			t.Fatalf("P301: Hash of %#v and of %#v: %q", lists[k], v, h)
		}
		had[h] = i
		if len(v) == 4 {
			continue
		}
		for _, next := range few {
			lists = append(lists, append(slices.Clone(v), next))
		}
	}
}

// TestHashTakesNothing: Hash leaves the list that it is handed as it was, with its spare room (P2).
func TestHashTakesNothing(t *testing.T) {
	room := []api.Value{val.OfInt(2), val.OfInt(1), val.OfStr("spare"), val.OfStr("room")}
	was := slices.Clone(room)
	val.Hash(room[:2])
	if !slices.Equal(room, was) {
		t.Errorf("P301: Hash changed its list: %#v, not %#v", room, was)
	}
}

// TestAnythingIsAnswered: no call panics, whatever value it is handed (P1).
func TestAnythingIsAnswered(t *testing.T) {
	for _, kind := range []int{math.MinInt, -1, 0, api.Int, api.Sym, api.Str, 4, math.MaxInt} {
		for _, i := range []int64{low, 0, high} {
			for _, s := range []string{"", "x", "\xff\x00\"\\", strings.Repeat("9", 2000)} {
				v := api.Value{Kind: kind, I: i, S: s}
				val.Right(v)
				val.Text(v)
				val.True(v)
				val.Hash([]api.Value{v, v})
			}
		}
	}
}
