package wm_test

import (
	"fmt"
	"math"
	"slices"
	"strings"
	"testing"

	"whelk/api"
	"whelk/tmpl"
	"whelk/val"
	"whelk/wm"
)

// fact tells a fact of the template s with these values.
func fact(id int, s string, l ...api.Value) wm.Fact {
	return wm.Fact{ID: id, T: s, Vals: l}
}

// ints tells numbers as values.
func ints(l ...int64) []api.Value {
	var values []api.Value
	for _, i := range l {
		values = append(values, val.OfInt(i))
	}
	return values
}

// equal tells whether a and b are the same in all fields; no list and an empty one are the same (P2).
func equal(a, b wm.Fact) bool {
	return a.ID == b.ID && a.T == b.T && slices.Equal(a.Vals, b.Vals)
}

// short tells the beginning of what x looks like.
func short(x any) string {
	s := fmt.Sprintf("%+v", x)
	return s[:min(len(s), 300)]
}

// known is what a memory is to hold, by the promise's words: its facts by number, and the number of the next one.
type known struct {
	facts []wm.Fact
	next  int
}

func (k known) find(s string, l []api.Value) (int, bool) {
	for _, f := range k.facts {
		if f.T == s && slices.Equal(f.Vals, l) {
			return f.ID, true
		}
	}
	return 0, false
}

func (k *known) assert(s string, l []api.Value) (int, bool, api.Errno) {
	if id, ok := k.find(s, l); ok {
		return id, false, api.OK
	}
	if len(k.facts) == api.MaxFacts {
		return 0, false, api.ErrFull
	}
	k.facts = append(k.facts, fact(k.next, s, slices.Clone(l)...))
	k.next++
	return k.next - 1, true, api.OK
}

func (k *known) retract(id int) bool {
	was := len(k.facts)
	k.facts = slices.DeleteFunc(slices.Clone(k.facts), func(f wm.Fact) bool { return f.ID == id })
	return len(k.facts) < was
}

func (k known) of(s string) []wm.Fact {
	return slices.DeleteFunc(slices.Clone(k.facts), func(f wm.Fact) bool { return f.T != s })
}

// pair is a memory and what it is to hold: what is done to the one is done to the other, and held against it.
type pair struct {
	t *testing.T
	m *wm.Memory
	k *known
}

func start(t *testing.T) pair { return pair{t, wm.New(), &known{next: 1}} }

func (p pair) twin() pair { return pair{p.t, p.m.Twin(), &known{slices.Clone(p.k.facts), p.k.next}} }

func (p pair) assert(s string, l ...api.Value) {
	p.t.Helper()
	id, fresh, err := p.m.Assert(s, l)
	if a, b, c := p.k.assert(s, l); id != a || fresh != b || err != c {
		p.t.Fatalf("P1001: Assert(%.40q, %s): %d, %t, %v, not %d, %t, %v", s, short(l), id, fresh, err, a, b, c)
	}
}

func (p pair) retract(id int) {
	p.t.Helper()
	if got, want := p.m.Retract(id), p.k.retract(id); got != want {
		p.t.Fatalf("P1001: Retract(%d): %t, not %t", id, got, want)
	}
}

// holds asks the memory for all that it is to hold, and for what is not there.
func (p pair) holds() {
	p.t.Helper()
	if p.m.Len() != len(p.k.facts) || p.m.Next() != p.k.next {
		p.t.Fatalf("P1001: Len %d, Next %d, not %d, %d", p.m.Len(), p.m.Next(), len(p.k.facts), p.k.next)
	}
	if l := p.m.All(); !slices.EqualFunc(l, p.k.facts, equal) {
		p.t.Fatalf("P1001: All: %s, not %s", short(l), short(p.k.facts))
	}
	templates := []string{"", "a", "b", "z"}
	for _, f := range p.k.facts {
		if !slices.Contains(templates, f.T) {
			templates = append(templates, f.T)
		}
	}
	for _, s := range templates {
		if l, want := p.m.Of(s), p.k.of(s); !slices.EqualFunc(l, want, equal) {
			p.t.Fatalf("P1001: Of(%.40q): %s, not %s", s, short(l), short(want))
		}
	}
	p.holdsEach()
}

// holdsEach asks for each fact by its number and by its values, and for such as are not there.
func (p pair) holdsEach() {
	p.t.Helper()
	for _, f := range p.k.facts {
		if got, ok := p.m.Get(f.ID); !equal(got, f) || !ok {
			p.t.Fatalf("P1001: Get(%d): %s, %t, not %s", f.ID, short(got), ok, short(f))
		}
		if id, ok := p.m.Find(f.T, f.Vals); id != f.ID || !ok {
			p.t.Fatalf("P1001: Find(%.40q, %s): %d, %t, not %d", f.T, short(f.Vals), id, ok, f.ID)
		}
	}
	there := map[int]int{}
	for _, f := range p.k.facts {
		there[f.ID]++
	}
	ids := []int{math.MinInt, -1, 0, p.k.next, p.k.next + 1, math.MaxInt}
	for id := 1; id < p.k.next; id++ {
		ids = append(ids, id)
	}
	for _, id := range ids {
		if f, ok := p.m.Get(id); ok != (there[id] == 1) || !ok && !equal(f, wm.Fact{}) {
			p.t.Fatalf("P1001: Get(%d): %s, %t", id, short(f), ok)
		}
	}
	for _, f := range append(slices.Clone(p.k.facts), fact(0, "a"), fact(0, "", ints(0)...), fact(0, "z", ints(1, 2)...)) {
		for _, l := range [][]api.Value{nil, f.Vals, append(slices.Clone(f.Vals), val.OfInt(0)), f.Vals[:len(f.Vals)/2]} {
			id, ok := p.m.Find(f.T, l)
			if a, b := p.k.find(f.T, l); id != a || ok != b {
				p.t.Fatalf("P1001: Find(%.40q, %s): %d, %t, not %d, %t", f.T, short(l), id, ok, a, b)
			}
		}
	}
}

// TestAssert: what each call is to answer, written out.
func TestAssert(t *testing.T) {
	m := wm.New()
	if m.Len() != 0 || m.Next() != 1 || len(m.All()) != 0 || len(m.Of("dog")) != 0 {
		t.Errorf("P1001: new: %d, %d", m.Len(), m.Next())
	}
	rex, bo := []api.Value{val.OfSym("rex"), val.OfInt(5)}, []api.Value{val.OfSym("bo"), val.OfInt(5)}
	for i, c := range []struct {
		t     string
		l     []api.Value
		id    int
		fresh bool
		next  int
	}{
		{"dog", rex, 1, true, 2}, {"dog", bo, 2, true, 3}, {"dog", rex, 1, false, 3}, {"cat", rex, 3, true, 4},
		{"dog", bo, 2, false, 4}, {"dog", nil, 4, true, 5}, {"dog", []api.Value{}, 4, false, 5}, {"cat", rex, 3, false, 5},
		{"dog", rex[:1], 5, true, 6}, {"cat", nil, 6, true, 7}, {"", nil, 7, true, 8}, {"", nil, 7, false, 8}, {"dog", rex, 1, false, 8},
	} {
		if id, fresh, err := m.Assert(c.t, c.l); id != c.id || fresh != c.fresh || err != api.OK || m.Next() != c.next {
			t.Errorf("P1001: %d: %d, %t, %v, next %d, not %d, %t, next %d", i, id, fresh, err, m.Next(), c.id, c.fresh, c.next)
		}
	}
	want := []wm.Fact{fact(1, "dog", rex...), fact(2, "dog", bo...), fact(3, "cat", rex...), fact(4, "dog"), fact(5, "dog", rex[0]), fact(6, "cat"), fact(7, "")}
	if l := m.All(); !slices.EqualFunc(l, want, equal) || m.Len() != 7 {
		t.Errorf("P1001: All: %v", l)
	}
	if l := m.Of("dog"); !slices.EqualFunc(l, []wm.Fact{want[0], want[1], want[3], want[4]}, equal) {
		t.Errorf("P1001: Of: %v", l)
	}
	if l := m.Of("Dog"); len(l) != 0 {
		t.Errorf("P1001: Of: %v", l)
	}
}

// TestRetract: a number is taken once, the numbers of others stay, and no number is given again.
func TestRetract(t *testing.T) {
	m := wm.New()
	for _, id := range []int{math.MinInt, -1, 0, 1, 2, math.MaxInt} {
		if m.Retract(id) {
			t.Errorf("P1001: Retract(%d) of nothing", id)
		}
	}
	for i := range 4 {
		m.Assert("a", ints(int64(i)))
	}
	for _, c := range []struct {
		id   int
		want bool
	}{{2, true}, {2, false}, {5, false}, {0, false}, {-2, false}, {4, true}, {4, false}, {1, true}, {3, true}, {3, false}} {
		if got := m.Retract(c.id); got != c.want || m.Next() != 5 {
			t.Errorf("P1001: Retract(%d): %t, next %d", c.id, got, m.Next())
		}
		if _, ok := m.Get(c.id); ok {
			t.Errorf("P1001: Get(%d), and it went", c.id)
		}
	}
	if m.Len() != 0 || len(m.All()) != 0 || len(m.Of("a")) != 0 {
		t.Errorf("P1001: %v", m.All())
	}
	// What went is no longer the same as what comes: it is a new fact, with a new number.
	if id, ok := m.Find("a", ints(3)); id != 0 || ok {
		t.Errorf("P1001: Find: %d", id)
	}
	for i, id := range []int64{3, 0} {
		if n, fresh, err := m.Assert("a", ints(id)); n != 5+i || !fresh || err != api.OK {
			t.Errorf("P1001: asserted again: %d, %t, %v", n, fresh, err)
		}
	}
	if l := m.All(); !slices.EqualFunc(l, []wm.Fact{fact(5, "a", ints(3)...), fact(6, "a", ints(0)...)}, equal) {
		t.Errorf("P1001: All: %v", l)
	}
}

// TestAllWays: all rows of a few calls are answered as the promise's words tell, and a twin goes its own way.
func TestAllWays(t *testing.T) {
	calls := []func(p pair){
		func(p pair) { p.assert("a", ints(1)...) },
		func(p pair) { p.assert("a", val.OfSym("x")) },
		func(p pair) { p.assert("b", ints(1)...) },
		func(p pair) { p.assert("") },
		func(p pair) { p.retract(1) },
		func(p pair) { p.retract(2) },
		func(p pair) { p.retract(3) },
		func(p pair) { p.retract(p.k.next - 1) },
	}
	var walk func(p pair, depth int)
	walk = func(p pair, depth int) {
		p.holds()
		if depth == 0 {
			return
		}
		for _, call := range calls {
			next := p.twin()
			call(next)
			walk(next, depth-1)
		}
		p.holds()
	}
	walk(start(t), 5)
}

// TestLong: a long row of calls over many facts, with the memory full at times.
func TestLong(t *testing.T) {
	p := start(t)
	state := uint32(1)
	draw := func(n int) int {
		state = state*1664525 + 1013904223
		return int(state>>8) % n
	}
	full := 0
	for i := range 12000 {
		// As many facts are asserted as there is room for, then most of them go, then they come again.
		if draw(8) < 2+5*(i/3000%2) {
			p.retract(draw(p.k.next + 2))
			if l := p.m.All(); len(l) > 0 {
				p.retract(l[draw(len(l))].ID)
			}
		} else {
			p.assert([]string{"a", "b", "c"}[draw(3)], val.OfInt(int64(draw(40))), val.OfInt(int64(draw(20))))
		}
		if p.m.Len() == api.MaxFacts {
			full++
		}
		if i%1000 == 999 {
			p.holds()
		}
	}
	if full == 0 || p.m.Len() == api.MaxFacts {
		t.Errorf("the row is too short: full %d times", full)
	}
}

// TestFull: MaxFacts facts, and one more.
func TestFull(t *testing.T) {
	p := start(t)
	for i := range api.MaxFacts {
		p.assert("n", val.OfInt(int64(i)))
	}
	p.holds()
	for range 2 {
		for _, f := range []wm.Fact{fact(0, "n", ints(api.MaxFacts)...), fact(0, "n"), fact(0, "m", ints(0)...), fact(0, "")} {
			if id, fresh, err := p.m.Assert(f.T, f.Vals); id != 0 || fresh || err != api.ErrFull {
				t.Errorf("P1001: Assert(%q, %v) when full: %d, %t, %v", f.T, f.Vals, id, fresh, err)
			}
			if id, ok := p.m.Find(f.T, f.Vals); id != 0 || ok {
				t.Errorf("P1001: Find(%q, %v), and it was refused: %d", f.T, f.Vals, id)
			}
		}
	}
	p.holds() // A refusal changes nothing (P5).
	for _, i := range []int64{0, 500, api.MaxFacts - 1} {
		if id, fresh, err := p.m.Assert("n", ints(i)); id != int(i)+1 || fresh || err != api.OK {
			t.Errorf("P1001: Assert of what is there, when full: %d, %t, %v", id, fresh, err)
		}
	}
	// It is how many are there that counts, not how many there were.
	p.retract(500)
	if id, fresh, err := p.m.Twin().Assert("n", ints(499)); id != api.MaxFacts+1 || !fresh || err != api.OK {
		t.Errorf("P1001: Assert where one went: %d, %t, %v", id, fresh, err)
	}
	p.assert("m", val.OfInt(1))
	p.assert("m", val.OfInt(2))
	p.holds()
	for id := range api.MaxFacts + 3 {
		p.retract(id)
	}
	p.holds()
	for i := range api.MaxFacts + 1 {
		p.assert("n", val.OfInt(int64(i)))
	}
	p.holds()
}

// alike are facts of which no two are the same, though they look alike.
func alike() []wm.Fact {
	one, x, s := val.OfInt(1), val.OfSym("x"), val.OfStr("x")
	l := []wm.Fact{
		fact(0, ""), fact(0, "a"), fact(0, "A"), fact(0, "\xff"), fact(0, "ab"), fact(0, "x"),
		fact(0, "", one), fact(0, "a", one), fact(0, "a1"), fact(0, "a", one, one), fact(0, "a", val.OfInt(11)), fact(0, "a1", one),
		fact(0, "a", x), fact(0, "a", s), fact(0, "ax"), fact(0, "", val.OfSym("a"), x), fact(0, "", val.OfStr("a"), x), fact(0, "", val.OfStr("a")), fact(0, "", x),
		fact(0, "a", one, x), fact(0, "a", x, one), fact(0, "a", x, x), fact(0, "a", val.OfSym("xx")), fact(0, "a", val.OfSym("X")), fact(0, "a", val.OfStr("")), fact(0, "a", val.OfSym("1")), fact(0, "a", val.OfStr("1")),
		fact(0, "a", val.OfInt(-1)), fact(0, "a", val.OfInt(0)), fact(0, "a", val.OfInt(math.MaxInt64)), fact(0, "a", val.OfInt(math.MinInt64)), fact(0, "a", val.OfInt(1+1<<32)),
		// Values that may not be are told apart all the same, by all their fields (chapter 3).
		fact(0, "a", api.Value{}), fact(0, "a", api.Value{}, api.Value{}), fact(0, "a", api.Value{Kind: -1}), fact(0, "a", api.Value{Kind: 4, I: 1, S: "x"}), fact(0, "a", api.Value{Kind: api.Int, I: 1, S: "x"}), fact(0, "a", api.Value{Kind: api.Sym, I: 1, S: "x"}),
		fact(0, strings.Repeat("a", 100000)), fact(0, strings.Repeat("a", 100000), val.OfStr(strings.Repeat("x", 100000))), fact(0, "a", slices.Repeat(ints(1), 10000)...), fact(0, "a", slices.Repeat(ints(1), 10001)...),
	}
	// Facts whose template is what others would be told by, were their two parts put behind one another, with something between or nothing.
	for _, between := range []string{" ", "/", "\x00", "\n", ":", "|", ","} {
		v := val.OfStr("x" + between)
		l = append(l, fact(0, "a", v), fact(0, "a"+between+strings.TrimSuffix(val.Hash([]api.Value{v}), between)))
	}
	for _, f := range slices.Clone(l[:30]) {
		h := val.Hash(f.Vals)
		for _, between := range []string{" ", "/", "\x00", "\n", ":", "|", ","} {
			l = append(l, fact(0, f.T+between+h))
		}
		l = append(l, fact(0, "", val.OfStr(f.T+h), val.OfInt(1)))
		if h != "" {
			l = append(l, fact(0, f.T+h), fact(0, h+f.T+"."))
		}
	}
	return l
}

// TestSame: facts are the same by template and values, and by nothing less.
func TestSame(t *testing.T) {
	l := alike()
	for range 2 {
		p := start(t)
		for i, f := range l {
			if id, fresh, err := p.m.Assert(f.T, f.Vals); id != i+1 || !fresh || err != api.OK {
				t.Fatalf("P1001: Assert(%.40q, %s): %d, %t, %v, not %d", f.T, short(f.Vals), id, fresh, err, i+1)
			}
			p.k.assert(f.T, f.Vals)
		}
		p.holds()
		for i, f := range l {
			if id, fresh, err := p.m.Assert(strings.Clone(f.T), slices.Clone(f.Vals)); id != i+1 || fresh || err != api.OK {
				t.Fatalf("P1001: Assert(%.40q, %s) again: %d, %t, %v, not %d", f.T, short(f.Vals), id, fresh, err, i+1)
			}
		}
		// Each that goes leaves all others.
		for i := range l {
			p.retract(i + 1)
			if i%16 == 0 {
				p.holds()
			}
		}
		p.holds()
		slices.Reverse(l)
	}
}

// TestFilled: facts as a template fills them.
func TestFilled(t *testing.T) {
	dog := tmpl.Template{Name: "dog", Slots: []tmpl.Slot{{Name: "name", Default: val.OfSym("nil")}, {Name: "age", Default: val.OfInt(1)}}}
	m := wm.New()
	for i, c := range []struct {
		names []string
		l     []api.Value
		id    int
	}{{nil, nil, 1}, {[]string{"age"}, ints(2), 2}, {[]string{"age"}, ints(1), 1}, {[]string{"age", "name"}, []api.Value{val.OfInt(2), val.OfSym("nil")}, 2}} {
		l, err := dog.Fill(c.names, c.l)
		if id, fresh, full := m.Assert(dog.Name, l); err != api.OK || id != c.id || fresh != (i < 2) || full != api.OK {
			t.Errorf("P1001: %d: %d, %t, %v", i, id, fresh, full)
		}
	}
	if f, ok := m.Get(2); !ok || dog.Text(f.Vals) != "(dog (name nil) (age 2))" {
		t.Errorf("P1001: %v", f)
	}
}

// TestTwin: a twin is like the memory as it was then, and neither tells of what is done to the other (P7).
func TestTwin(t *testing.T) {
	p := start(t)
	p.twin().holds()
	for i := range 5 {
		p.assert("a", val.OfInt(int64(i)))
	}
	p.retract(5)
	q := p.twin()
	q.holds() // The numbers go on, though the last fact went.
	p.assert("a", val.OfInt(7))
	q.assert("b", val.OfInt(7))
	p.retract(1)
	q.retract(3)
	p.holds()
	q.holds()
	r := q.twin()
	for id := range 8 {
		q.retract(id)
	}
	q.assert("a", val.OfInt(1))
	p.holds()
	q.holds()
	r.holds()
	r.assert("a", val.OfInt(1))
	r.holds()
	// A twin of one that had none of its own yet.
	first, second := start(t), wm.New().Twin()
	first.assert("a")
	if second.Len() != 0 || second.Next() != 1 {
		t.Error("P1001: Twin of a new memory")
	}
	// And memories of New know nothing of one another.
	other := start(t)
	other.holds()
	first.holds()
}

// TestZero: a memory that New did not make is empty too, and does not panic (P1).
func TestZero(t *testing.T) {
	p := pair{t, &wm.Memory{}, &known{next: 1}}
	p.holds()
	p.retract(1)
	p.twin().holds()
	q := p.twin()
	q.assert("a", val.OfInt(1))
	q.holds()
	p.holds()
	p.assert("b")
	p.assert("b")
	p.holds()
}

// withRoom tells l with spare room, filled, behind it.
func withRoom(l []api.Value) []api.Value {
	room := append(slices.Clone(l), ints(91, 92, 93)...)
	return room[:len(l)]
}

// TestTakesNothing: what is handed in is not changed, with its spare room, and not kept (P2).
func TestTakesNothing(t *testing.T) {
	for n := range 4 {
		p := start(t)
		p.assert("a", ints(0)...)
		l := withRoom(ints(1, 2, 3)[:n])
		were := slices.Clone(l[:cap(l)])
		p.m.Find("a", l)
		p.m.Assert("a", l)
		p.k.assert("a", l)
		p.m.Assert("a", l)
		p.m.Find("a", l)
		if !slices.Equal(l[:cap(l)], were) {
			t.Errorf("P1001: %d: changed: %v", n, l[:cap(l)])
		}
		clear(l[:cap(l)])
		p.holds()
		if id, ok := p.m.Find("a", were[:n]); id != 2 || !ok {
			t.Errorf("P1001: %d: the memory kept what it was handed: %d", n, id)
		}
	}
}

// spoil changes all of l, with its spare room, and all in it.
func spoil(l []wm.Fact) {
	l = l[:cap(l)]
	for i := range l {
		clear(l[i].Vals[:cap(l[i].Vals)])
		l[i] = fact(99, "spoilt")
	}
}

// TestCopies: what is answered is new each time: to change it changes neither the memory, nor its twin, nor another answer (P2).
func TestCopies(t *testing.T) {
	p := start(t)
	for i := range 9 {
		p.assert([]string{"a", "b"}[i%2], ints(1, 2, 3, 4, 5, 6, 7, 8, 9)[:i]...)
	}
	p.retract(4)
	q := p.twin()
	answers := []func() []wm.Fact{
		p.m.All,
		q.m.All,
		func() []wm.Fact { return p.m.Of("a") },
		func() []wm.Fact { return p.m.Of("z") },
		func() []wm.Fact { f, _ := p.m.Get(9); return []wm.Fact{f} },
		func() []wm.Fact { f, _ := p.m.Get(4); return []wm.Fact{f} },
	}
	for i, answer := range answers {
		first, second, want := answer(), answer(), answer()
		spoil(first)
		if !slices.EqualFunc(second, want, equal) || !slices.EqualFunc(answer(), want, equal) {
			t.Errorf("P1001: %d: answers share room", i)
		}
		p.holds()
		q.holds()
	}
	// What was answered stays as it was, whatever is done to the memory.
	all, want := p.m.All(), slices.Clone(p.k.facts)
	for id := range 10 {
		p.retract(id)
	}
	for i := range int64(9) {
		p.assert("c", ints(i, i, i, i, i, i, i, i, i)...)
	}
	if !slices.EqualFunc(all, want, equal) {
		t.Errorf("P1001: All: %v, not %v", all, want)
	}
	p.holds()
	q.holds()
}

// TestApart: no two lists of one answer share room, their spare room too (P2).
func TestApart(t *testing.T) {
	p := start(t)
	for i := range 20 {
		p.assert("a", slices.Repeat(ints(int64(i)), i)...)
	}
	for _, l := range [][]wm.Fact{p.m.All(), p.m.Of("a"), p.m.Twin().All()} {
		places := map[*api.Value]string{}
		for i, f := range l {
			room := f.Vals[:cap(f.Vals)]
			for j := range room {
				here := fmt.Sprint(i, " ", j)
				if there, ok := places[&room[j]]; ok {
					t.Errorf("P1001: %s and %s are one place", there, here)
				}
				places[&room[j]] = here
			}
		}
	}
}
