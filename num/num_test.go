package num_test

import (
	"math"
	"math/big"
	"strings"
	"testing"

	"whelk/api"
	"whelk/num"
)

const (
	low  = math.MinInt64
	high = math.MaxInt64
)

type operation func(a, b int64) (int64, api.Errno)

// edges are numbers near which sums, products and quotients leave int64.
func edges() []int64 {
	var l []int64
	for _, n := range []int64{0, 10, 1 << 16, 1 << 31, 1 << 32, 3037000499, 1 << 62, high / 3, high / 2, high} {
		for d := int64(-3); d <= 3; d++ {
			if n > high-3 && d > 0 {
				continue
			}
			l = append(l, n+d, -(n + d))
		}
	}
	return append(l, low, low+1, low+2, low/2, low/2-1, low/2+1, low/3)
}

// TestAgainstWideNumbers holds each operation against one that can't wrap round, over all pairs of edges.
func TestAgainstWideNumbers(t *testing.T) {
	for _, c := range []struct {
		name    string
		narrow  operation
		wide    func(z, a, b *big.Int) *big.Int
		divides bool
	}{
		{"Add", num.Add, (*big.Int).Add, false},
		{"Sub", num.Sub, (*big.Int).Sub, false},
		{"Mul", num.Mul, (*big.Int).Mul, false},
		{"Div", num.Div, (*big.Int).Quo, true},
		{"Mod", num.Mod, (*big.Int).Rem, true},
	} {
		for _, a := range edges() {
			for _, b := range edges() {
				want, err := int64(0), api.ErrRange
				if b != 0 || !c.divides {
					if w := c.wide(new(big.Int), big.NewInt(a), big.NewInt(b)); w.IsInt64() {
						want, err = w.Int64(), api.OK
					}
				}
				if n, e := c.narrow(a, b); n != want || e != err {
					t.Fatalf("P101: %s(%d, %d): %d, %v, not %d, %v", c.name, a, b, n, e, want, err)
				}
			}
		}
	}
}

func TestOperations(t *testing.T) {
	for _, c := range []struct {
		name    string
		f       operation
		a, b, n int64
		err     api.Errno
	}{
		{"Add", num.Add, 40, 2, 42, api.OK},
		{"Add", num.Add, high, 0, high, api.OK},
		{"Add", num.Add, high, 1, 0, api.ErrRange},
		{"Add", num.Add, low, low, 0, api.ErrRange},
		{"Sub", num.Sub, 2, 44, -42, api.OK},
		{"Sub", num.Sub, low, 0, low, api.OK},
		{"Sub", num.Sub, high, -1, 0, api.ErrRange},
		{"Sub", num.Sub, 0, low, 0, api.ErrRange},
		{"Sub", num.Sub, low, low, 0, api.OK},
		{"Mul", num.Mul, -6, 7, -42, api.OK},
		{"Mul", num.Mul, -1, low, 0, api.ErrRange},
		{"Mul", num.Mul, low, -1, 0, api.ErrRange},
		{"Mul", num.Mul, low, 0, 0, api.OK},
		{"Mul", num.Mul, 1 << 32, 1 << 32, 0, api.ErrRange},
		{"Div", num.Div, 7, -2, -3, api.OK},
		{"Div", num.Div, -7, -2, 3, api.OK},
		{"Div", num.Div, low, 1, low, api.OK},
		{"Div", num.Div, low, -1, 0, api.ErrRange},
		{"Div", num.Div, 0, 0, 0, api.ErrRange},
		{"Mod", num.Mod, -7, -2, -1, api.OK},
		{"Mod", num.Mod, 7, -2, 1, api.OK},
		{"Mod", num.Mod, low, -1, 0, api.OK},
		{"Mod", num.Mod, low, 0, 0, api.ErrRange},
	} {
		if n, err := c.f(c.a, c.b); n != c.n || err != c.err {
			t.Errorf("P101: %s(%d, %d): %d, %v, not %d, %v", c.name, c.a, c.b, n, err, c.n, c.err)
		}
	}
}

func TestParse(t *testing.T) {
	noughts := strings.Repeat("0", 1000)
	for _, c := range []struct {
		s   string
		n   int64
		err api.Errno
	}{
		{"0", 0, api.OK},
		{"+0", 0, api.OK},
		{"-0", 0, api.OK},
		{"42", 42, api.OK},
		{"+42", 42, api.OK},
		{"-42", -42, api.OK},
		{"-007", -7, api.OK},
		{"9223372036854775807", high, api.OK},
		{"+9223372036854775807", high, api.OK},
		{"-9223372036854775807", -high, api.OK},
		{"-9223372036854775808", low, api.OK},
		{noughts + "9223372036854775807", high, api.OK},
		{"-" + noughts + "9223372036854775808", low, api.OK},

		{"9223372036854775808", 0, api.ErrRange},
		{"+9223372036854775808", 0, api.ErrRange},
		{"-9223372036854775809", 0, api.ErrRange},
		{"18446744073709551615", 0, api.ErrRange},
		{"18446744073709551616", 0, api.ErrRange},
		{"-18446744073709551617", 0, api.ErrRange},
		{"1" + noughts, 0, api.ErrRange},
		{noughts + "9223372036854775808", 0, api.ErrRange},

		{"", 0, api.ErrForm},
		{"+", 0, api.ErrForm},
		{"-", 0, api.ErrForm},
		{"--1", 0, api.ErrForm},
		{"++1", 0, api.ErrForm},
		{"-+1", 0, api.ErrForm},
		{"1-", 0, api.ErrForm},
		{" 1", 0, api.ErrForm},
		{"1 ", 0, api.ErrForm},
		{"1\n", 0, api.ErrForm},
		{"- 1", 0, api.ErrForm},
		{"1_000", 0, api.ErrForm},
		{"0x10", 0, api.ErrForm},
		{"1e3", 0, api.ErrForm},
		{"1.0", 0, api.ErrForm},
		{"1\x00", 0, api.ErrForm},
		{"\u0661", 0, api.ErrForm},
		{"\u22121", 0, api.ErrForm},
		{"\xff", 0, api.ErrForm},
		{"99999999999999999999x", 0, api.ErrForm},
		{"-99999999999999999999-", 0, api.ErrForm},
	} {
		if n, err := num.Parse(c.s); n != c.n || err != c.err {
			t.Errorf("P101: Parse(%q): %d, %v, not %d, %v", c.s, n, err, c.n, c.err)
		}
	}
}

// TestParseBytes: of all bytes, just the digits are numbers, and just the signs may stand ahead of one.
func TestParseBytes(t *testing.T) {
	for i := range 256 {
		b := byte(i)
		alone, ahead, behind := api.ErrForm, api.ErrForm, api.ErrForm
		if '0' <= b && b <= '9' {
			alone, ahead, behind = api.OK, api.OK, api.OK
		}
		if b == '+' || b == '-' {
			ahead = api.OK
		}
		for _, c := range []struct {
			s   []byte
			err api.Errno
		}{{[]byte{b}, alone}, {[]byte{b, '1'}, ahead}, {[]byte{'1', b}, behind}} {
			if _, err := num.Parse(string(c.s)); err != c.err {
				t.Errorf("P101: Parse(%q): %v, not %v", c.s, err, c.err)
			}
		}
	}
}

func TestText(t *testing.T) {
	for _, c := range []struct {
		n int64
		s string
	}{
		{0, "0"}, {7, "7"}, {-7, "-7"}, {10, "10"}, {-100, "-100"},
		{high, "9223372036854775807"}, {low, "-9223372036854775808"},
	} {
		if s := num.Text(c.n); s != c.s {
			t.Errorf("P101: Text(%d): %q, not %q", c.n, s, c.s)
		}
	}
}

func TestTextAndBack(t *testing.T) {
	for _, n := range edges() {
		s := num.Text(n)
		if s != big.NewInt(n).String() {
			t.Errorf("P101: Text(%d): %q", n, s)
		}
		if back, err := num.Parse(s); back != n || err != api.OK {
			t.Errorf("P101: Parse(%q): %d, %v", s, back, err)
		}
	}
}

func TestUse(t *testing.T) {
	for _, c := range []struct {
		left, n, then int
		err           api.Errno
	}{
		{5, 0, 5, api.OK},
		{5, 2, 3, api.OK},
		{5, 5, 0, api.OK},
		{0, 0, 0, api.OK},
		{math.MaxInt, math.MaxInt, 0, api.OK},

		{5, 6, 0, api.ErrFuel},
		{0, 1, 0, api.ErrFuel},
		{5, math.MaxInt, 0, api.ErrFuel},
		{-3, 0, 0, api.ErrFuel},
		{math.MinInt, math.MaxInt, 0, api.ErrFuel},

		{5, -1, 5, api.ErrArg},
		{0, -1, 0, api.ErrArg},
		{5, math.MinInt, 5, api.ErrArg},
		{-3, -1, -3, api.ErrArg},
		{-3, -5, -3, api.ErrArg},
	} {
		f := num.Fuel{Left: c.left}
		if err := f.Use(c.n); err != c.err || f.Left != c.then {
			t.Errorf("P101: Use(%d) of %d: %v, %d left, not %v, %d", c.n, c.left, err, f.Left, c.err, c.then)
		}
	}
}

// TestUseOn: what is used stays used, and fuel that ran out stays out.
func TestUseOn(t *testing.T) {
	f := num.Fuel{Left: 10}
	for i, c := range []struct {
		n, left int
		err     api.Errno
	}{
		{4, 6, api.OK}, {4, 2, api.OK}, {-4, 2, api.ErrArg}, {4, 0, api.ErrFuel}, {2, 0, api.ErrFuel}, {0, 0, api.OK},
	} {
		if err := f.Use(c.n); err != c.err || f.Left != c.left {
			t.Errorf("P101: %d: Use(%d): %v, %d left, not %v, %d", i, c.n, err, f.Left, c.err, c.left)
		}
	}
}
