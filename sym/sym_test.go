package sym_test

import (
	"math"
	"strconv"
	"strings"
	"testing"

	"whelk/api"
	"whelk/sym"
)

const (
	room    = 4096
	letters = "abcdefghijklmnopqrstuvwxyzABCDEFGHIJKLMNOPQRSTUVWXYZ"
	others  = "0123456789-_"
)

// notNames are texts that are no names, each for a reason of its own.
func notNames() []string {
	return []string{
		"", "9", "9a", "-", "-a", "_", "_a", " a", "a ", "a b", "a.b", "a+b", "a?", "?a", "a\n", "a\x00", "\x00a",
		"\u00e4", "a\u00e4", "a\u0661", "a\u2010b", "\xff", "a\xff", "\"a\"", "(a)", "a;b",
		strings.Repeat("x", 41), strings.Repeat("x", 1000), strings.Repeat("\u00e9", 20), strings.Repeat("x", 39) + "\u00e9",
		strings.Repeat("x", 39) + ".", "-" + strings.Repeat("x", 39),
	}
}

// numbered tells the i-th of as many names as are needed.
func numbered(i int) string { return "n" + strconv.Itoa(i) }

// filled tells a table with the first n numbered names.
func filled(t *testing.T, n int) *sym.Table {
	t.Helper()
	table := sym.New()
	for i := 1; i <= n; i++ {
		if got, err := table.Intern(numbered(i)); got != i || err != api.OK {
			t.Fatalf("P201: Intern of the name %d: %d, %v", i, got, err)
		}
	}
	return table
}

// expect holds a table against the names that it should have, by all that asks it.
func expect(t *testing.T, table *sym.Table, names ...string) {
	t.Helper()
	if table.Len() != len(names) {
		t.Errorf("P201: Len: %d, not %d", table.Len(), len(names))
	}
	for i, s := range names {
		if n, ok := table.Find(s); n != i+1 || !ok {
			t.Errorf("P201: Find(%q): %d, %t, not %d", s, n, ok, i+1)
		}
		if got, ok := table.Name(i + 1); got != s || !ok {
			t.Errorf("P201: Name(%d): %q, %t, not %q", i+1, got, ok, s)
		}
	}
	for _, n := range []int{0, -1, len(names) + 1, math.MinInt, math.MaxInt} {
		if s, ok := table.Name(n); s != "" || ok {
			t.Errorf("P201: Name(%d): %q, %t, and there is none", n, s, ok)
		}
	}
}

func TestGood(t *testing.T) {
	for _, s := range []string{
		"a", "Z", "ab", "a1", "a-", "a_", "a--_9", "A-b_9", "find-all", "X0",
		strings.Repeat("x", 39), strings.Repeat("x", 40), "a" + strings.Repeat("-", 39), "z" + strings.Repeat("9", 39),
	} {
		if !sym.Good(s) {
			t.Errorf("P201: Good(%q): false", s)
		}
	}
	for _, s := range notNames() {
		if sym.Good(s) {
			t.Errorf("P201: Good(%q): true", s)
		}
	}
}

// TestGoodBytes: which of all bytes may be the first of a name, and which may stand behind it.
func TestGoodBytes(t *testing.T) {
	for i := range 256 {
		b := byte(i)
		first := strings.IndexByte(letters, b) >= 0
		behind := first || strings.IndexByte(others, b) >= 0
		for _, c := range []struct {
			s    []byte
			want bool
		}{
			{[]byte{b}, first}, {[]byte{b, 'a'}, first}, {[]byte{'a', b}, behind}, {[]byte{'a', b, 'a'}, behind},
		} {
			if sym.Good(string(c.s)) != c.want {
				t.Errorf("P201: Good(%q): %t", c.s, !c.want)
			}
		}
	}
}

func TestIntern(t *testing.T) {
	table := sym.New()
	expect(t, table)
	for _, c := range []struct {
		s string
		n int
	}{
		{"red", 1}, {"Red", 2}, {"red", 1}, {"a", 3}, {"r", 4}, {"re", 5}, {"Red", 2}, {"a-1", 6}, {"a_1", 7},
		{strings.Repeat("x", 40), 8}, {strings.Repeat("x", 39), 9}, {"a", 3}, {"b", 10},
	} {
		if n, err := table.Intern(c.s); n != c.n || err != api.OK {
			t.Errorf("P201: Intern(%q): %d, %v, not %d", c.s, n, err, c.n)
		}
	}
	expect(t, table, "red", "Red", "a", "r", "re", "a-1", "a_1", strings.Repeat("x", 40), strings.Repeat("x", 39), "b")
}

// TestInternRefuses: what is no name is not taken, and takes no number.
func TestInternRefuses(t *testing.T) {
	table := sym.New()
	table.Intern("a")
	for _, s := range notNames() {
		if n, err := table.Intern(s); n != 0 || err != api.ErrForm {
			t.Errorf("P201: Intern(%q): %d, %v, not %v", s, n, err, api.ErrForm)
		}
		if n, ok := table.Find(s); n != 0 || ok {
			t.Errorf("P201: Find(%q): %d, %t, and it is not there", s, n, ok)
		}
	}
	expect(t, table, "a")
	if n, err := table.Intern("b"); n != 2 || err != api.OK {
		t.Errorf("P201: Intern behind refusals: %d, %v, not 2", n, err)
	}
}

// TestFindTakesNothing: asking for a name doesn't give it a number.
func TestFindTakesNothing(t *testing.T) {
	table := sym.New()
	for _, s := range []string{"a", "", "9", strings.Repeat("x", 41)} {
		for range 2 {
			if n, ok := table.Find(s); n != 0 || ok {
				t.Errorf("P201: Find(%q): %d, %t, and it is not there", s, n, ok)
			}
		}
	}
	expect(t, table)
	if n, err := table.Intern("b"); n != 1 || err != api.OK {
		t.Errorf("P201: Intern behind Find: %d, %v, not 1", n, err)
	}
}

func TestFull(t *testing.T) {
	table := filled(t, room-1)
	if n, err := table.Intern("last"); n != room || err != api.OK {
		t.Errorf("P201: Intern with room for one: %d, %v, not %d", n, err, room)
	}
	for range 2 {
		if n, err := table.Intern("more"); n != 0 || err != api.ErrFull {
			t.Errorf("P201: Intern without room: %d, %v, not %v", n, err, api.ErrFull)
		}
	}
	if n, ok := table.Find("more"); n != 0 || ok {
		t.Errorf("P201: Find of what had no room: %d, %t", n, ok)
	}
	// P6: the form goes ahead of the room.
	if n, err := table.Intern("9"); n != 0 || err != api.ErrForm {
		t.Errorf("P201: Intern of no name, without room: %d, %v, not %v", n, err, api.ErrForm)
	}
	if n, err := table.Intern("last"); n != room || err != api.OK {
		t.Errorf("P201: Intern of what is there, without room: %d, %v, not %d", n, err, room)
	}
	var names []string
	for i := 1; i < room; i++ {
		names = append(names, numbered(i))
	}
	expect(t, table, append(names, "last")...)
}

// TestApart: no table tells of another one (P7), and one that New did not make is as empty as one that it did.
func TestApart(t *testing.T) {
	a, b, c := sym.New(), sym.New(), &sym.Table{}
	a.Intern("x")
	a.Intern("y")
	b.Intern("y")
	expect(t, c)
	c.Intern("z")
	expect(t, a, "x", "y")
	expect(t, b, "y")
	expect(t, c, "z")
	if n, ok := b.Find("x"); n != 0 || ok {
		t.Errorf("P201: Find in another table: %d, %t", n, ok)
	}
}
