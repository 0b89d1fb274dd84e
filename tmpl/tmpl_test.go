package tmpl_test

import (
	"errors"
	"fmt"
	"math"
	"slices"
	"strings"
	"testing"

	"whelk/api"
	"whelk/lex"
	"whelk/sexp"
	"whelk/tmpl"
	"whelk/val"
)

// Parts of templates, as Parse is to tell them.
func template(name string, slots ...tmpl.Slot) tmpl.Template {
	return tmpl.Template{Name: name, Slots: slots}
}
func slot(name string) tmpl.Slot { return tmpl.Slot{Name: name, Default: val.OfSym("nil")} }
func slotOf(name string, v api.Value) tmpl.Slot {
	return tmpl.Slot{Name: name, Default: v}
}
func times(s string, n int) string { return strings.Repeat(s, n) }

// numbered tells the text of the slots s1 to sN, and these.
func numbered(n int) (string, []tmpl.Slot) {
	text, slots := "", []tmpl.Slot{}
	for i := 1; i <= n; i++ {
		name := fmt.Sprint("s", i)
		text += " (slot " + name + ")"
		slots = append(slots, slot(name))
	}
	return text, slots
}

// read tells the one node of a text.
func read(t *testing.T, s string) sexp.Node {
	t.Helper()
	l, err := sexp.Read([]byte(s))
	if err != nil || len(l) != 1 {
		t.Fatalf("Read(%.80q): %d nodes, %v", s, len(l), err)
	}
	return l[0]
}

// parse tells the template of a text that is good.
func parse(t *testing.T, s string) tmpl.Template {
	t.Helper()
	x, err := tmpl.Parse(read(t, s))
	if err != nil {
		t.Fatalf("P901: Parse(%.80q): %v", s, err)
	}
	return x
}

// equal tells whether a and b are the same in all fields; no list and an empty one are the same (P2).
func equal(a, b tmpl.Template) bool {
	return a.Name == b.Name && slices.Equal(a.Slots, b.Slots)
}

// equalNodes tells whether a and b are the same in all fields, At too.
func equalNodes(a, b sexp.Node) bool {
	return a.Kind == b.Kind && a.At == b.At && a.I == b.I && a.S == b.S && slices.EqualFunc(a.Kids, b.Kids, equalNodes)
}

// placeless tells whether n and all in it have At 0.
func placeless(n sexp.Node) bool {
	return n.At == 0 && !slices.ContainsFunc(n.Kids, func(kid sexp.Node) bool { return !placeless(kid) })
}

// holds asks that Parse tells want of s, that Node tells back as it is written, and Parse again of that.
func holds(t *testing.T, s, back string, want tmpl.Template) {
	t.Helper()
	x, err := tmpl.Parse(read(t, s))
	if err != nil || !equal(x, want) {
		t.Errorf("P901: Parse(%.80q): %+v, %v, not %+v", s, x, err, want)
		return
	}
	n := tmpl.Node(x)
	if sexp.Text(n) != back || !sexp.Same(n, read(t, back)) || !placeless(n) {
		t.Errorf("P901: Node of %.80q: %+v, not %.80q", s, n, back)
	}
	if again, err := tmpl.Parse(n); err != nil || !equal(again, x) || !tmpl.Same(again, x) {
		t.Errorf("P901: %.80q there and back: %+v, %v", s, again, err)
	}
}

// refuses asks that Parse tells this error of s, as one Fault, and nothing beside it.
func refuses(t *testing.T, s string, at int, want api.Errno) {
	t.Helper()
	refusesNode(t, read(t, s), at, want)
}

func refusesNode(t *testing.T, n sexp.Node, at int, want api.Errno) {
	t.Helper()
	x, err := tmpl.Parse(n)
	var f *api.Fault
	var number api.Errno
	if x.Name != "" || len(x.Slots) != 0 || !errors.As(err, &f) || !errors.As(err, &number) {
		t.Errorf("P901: Parse(%.80q): %+v, %v, not char %d: %v", sexp.Text(n), x, err, at, want)
		return
	}
	if *f != (api.Fault{Part: "char", At: at, Err: want}) || number != want || !errors.Is(err, want) {
		t.Errorf("P901: Parse(%.80q): %v, not char %d: %v", sexp.Text(n), err, at, want)
	}
}

func TestParse(t *testing.T) {
	long := times("x", api.MaxName)
	for _, c := range []struct {
		s string
		x tmpl.Template
	}{
		{"(deftemplate d)", template("d")},
		{"(deftemplate dog (slot name))", template("dog", slot("name"))},
		{"(deftemplate dog (slot name) (slot age (default -3)) (slot owner))", template("dog", slot("name"), slotOf("age", val.OfInt(-3)), slot("owner"))},
		{"(deftemplate d (slot b) (slot a) (slot B))", template("d", slot("b"), slot("a"), slot("B"))},
		{"(deftemplate deftemplate (slot slot) (slot default (default default)) (slot deftemplate))", template("deftemplate", slot("slot"), slotOf("default", val.OfSym("default")), slot("deftemplate"))},
		{"(deftemplate d (slot d))", template("d", slot("d"))},
		{"(deftemplate nil (slot nil))", template("nil", slot("nil"))},
		{"(deftemplate " + long + " (slot " + long + "))", template(long, slot(long))},
		{"(deftemplate a-b_9 (slot Z-_0) (slot Z-_))", template("a-b_9", slot("Z-_0"), slot("Z-_"))},
	} {
		holds(t, c.s, c.s, c.x)
	}
	holds(t, " ( deftemplate d;(slot x)\n( slot\ta)(slot b(default\n1) ))", "(deftemplate d (slot a) (slot b (default 1)))", template("d", slot("a"), slotOf("b", val.OfInt(1))))
}

// TestDefaults: each kind of value, at its ends too; just the symbol nil is not told back.
func TestDefaults(t *testing.T) {
	for _, v := range []api.Value{
		val.OfInt(0), val.OfInt(7), val.OfInt(-7), val.OfInt(math.MinInt64), val.OfInt(math.MaxInt64),
		val.OfSym("a"), val.OfSym("NIL"), val.OfSym("nil1"), val.OfSym("ni"), val.OfSym("+"), val.OfSym("a.b"), val.OfSym("=>"), val.OfSym("9x"), val.OfSym("TRUE"), val.OfSym(times("&", api.MaxName)),
		val.OfStr(""), val.OfStr("nil"), val.OfStr("a"), val.OfStr("7"), val.OfStr("say \"(a) ~?x\\"), val.OfStr("\n\x00\xff"), val.OfStr(times("\"", 1000)),
	} {
		s := "(deftemplate d (slot a (default " + val.Text(v) + ")) (slot b))"
		holds(t, s, s, template("d", slotOf("a", v), slot("b")))
	}
	holds(t, "(deftemplate d (slot a (default nil)) (slot b (default 1)))", "(deftemplate d (slot a) (slot b (default 1)))", template("d", slot("a"), slotOf("b", val.OfInt(1))))
	holds(t, "(deftemplate d (slot a (default +007)))", "(deftemplate d (slot a (default 7)))", template("d", slotOf("a", val.OfInt(7))))
}

// TestForm: what is no template at all is refused at its own place.
func TestForm(t *testing.T) {
	for _, s := range []string{
		"dog", "deftemplate", "7", "\"deftemplate\"", "?deftemplate", "?*deftemplate*", "~deftemplate",
		"()", "(())", "(7)", "((deftemplate) d)", "((deftemplate d))", "(\"deftemplate\" d)", "(?deftemplate d)", "(~deftemplate d)",
		"(defrule d)", "(Deftemplate d)", "(deftemplates d)", "(deftemplat d)", "(d deftemplate)", "(slot d)",
		"(deftemplate)", "(deftemplate ())", "(deftemplate (d))", "(deftemplate (slot a))", "(deftemplate (slot a) d)",
		"(deftemplate 5)", "(deftemplate \"d\")", "(deftemplate ?d)", "(deftemplate ?*d*)", "(deftemplate ~d)",
		"(deftemplate a.b)", "(deftemplate 9d)", "(deftemplate -)", "(deftemplate _d)", "(deftemplate -d)", "(deftemplate +)", "(deftemplate M::d)",
		"(deftemplate 5 x)", "(deftemplate a.b (slot a) (slot a))", "(defrule d x)", "(defrule d (slot 5))",
	} {
		refuses(t, s, 0, api.ErrForm)
		refuses(t, "\n ;\n"+s+" ", 4, api.ErrForm)
	}
}

// notSlots are nodes that are no slots.
func notSlots() []string {
	return []string{
		"x", "slot", "7", "\"slot\"", "?slot", "?*slot*", "~slot", "~7",
		"()", "(())", "(a)", "((slot a))", "(\"slot\" a)", "(?slot a)", "(~slot a)", "(field a)", "(Slot a)", "(slots a)", "(multislot a)", "(a slot)", "(default 1)", "(deftemplate a)",
		"(slot)", "(slot ())", "(slot (a))", "(slot 5)", "(slot \"a\")", "(slot ?a)", "(slot ?*a*)", "(slot ~a)", "(slot a.b)", "(slot 9a)", "(slot _a)", "(slot -)", "(slot (default 1))", "(slot (default 1) a)", "(slot 5 (default 1))", "(slot a.b (default 1))",
		"(slot a b)", "(slot a 1)", "(slot a default)", "(slot a default 1)", "(slot a ())", "(slot a (default))", "(slot a (default 1 2))", "(slot a (default 1) x)", "(slot a (default 1) (default 1))", "(slot a x (default 1))",
		"(slot a ~x)", "(slot a (Default 1))", "(slot a (defaults 1))", "(slot a (slot 1))", "(slot a (1))", "(slot a (1 default))", "(slot a (\"default\" 1))", "(slot a (?default 1))", "(slot a (~default 1))", "(slot a ((default) 1))", "(slot a ((default 1)))",
		"(slot a (default ?x))", "(slot a (default ?*x*))", "(slot a (default ~x))", "(slot a (default ~1))", "(slot a (default ()))", "(slot a (default (x)))", "(slot a (default (+ 1 2)))", "(slot a (default ?NONE))", "(slot a (default 1 nil))",
	}
}

// TestSlotForm: what is no slot is refused where it stands, whatever stands ahead of it and behind it, and even if it is one too many.
func TestSlotForm(t *testing.T) {
	full, _ := numbered(api.MaxSlots)
	for _, s := range notSlots() {
		for _, ahead := range []string{"(deftemplate d ", "(deftemplate d\n", "(deftemplate d (slot a) (slot b (default 1)) ", "(deftemplate d" + full + " "} {
			refuses(t, ahead+s+")", len(ahead), api.ErrForm)
			refuses(t, ahead+s+" x)", len(ahead), api.ErrForm)
			refuses(t, ahead+s+" (slot a) (slot a))", len(ahead), api.ErrForm)
			refuses(t, " "+ahead+s+full+")", len(ahead)+1, api.ErrForm)
		}
	}
}

func TestTwice(t *testing.T) {
	for _, c := range []struct {
		s  string
		at int
	}{
		{"(deftemplate d (slot a) (slot a))", 24},
		{"(deftemplate d (slot a) (slot a (default 1)))", 24},
		{"(deftemplate d (slot a (default 1)) (slot a (default 1)))", 36},
		{"(deftemplate d (slot a) (slot b) (slot a))", 33},
		{"(deftemplate d (slot b) (slot a) (slot a))", 33},
		{"(deftemplate d (slot a) (slot b) (slot b) (slot a))", 33},
		{"(deftemplate d (slot a) (slot b) (slot a) (slot b) x)", 33},
		{"(deftemplate a (slot nil) (slot nil))", 26},
		{"(deftemplate d  (slot a)(slot a))", 24},
	} {
		refuses(t, c.s, c.at, api.ErrTwice)
		refuses(t, "\t\n"+c.s, c.at+2, api.ErrTwice)
	}
	x := times("x", api.MaxName)
	refuses(t, "(deftemplate d (slot "+x+") (slot "+x+"))", 63, api.ErrTwice)
	holds(t, "(deftemplate d (slot "+x+") (slot "+x[1:]+"))", "(deftemplate d (slot "+x+") (slot "+x[1:]+"))", template("d", slot(x), slot(x[1:])))
}

// TestLong: slots at the limit and more; a name that is there is told ahead of there being no room.
func TestLong(t *testing.T) {
	for n := range api.MaxSlots + 1 {
		text, slots := numbered(n)
		holds(t, "(deftemplate d"+text+")", "(deftemplate d"+text+")", template("d", slots...))
	}
	full, _ := numbered(api.MaxSlots)
	head := "(deftemplate d" + full + " "
	for _, s := range []string{"(slot t)", "(slot t (default 1))", "(slot t) (slot s1)", "(slot t) (slot u)", "(slot t) x", "(slot t) (slot t)", "(slot s17)", "(slot nil)", "(slot d)"} {
		refuses(t, head+s+")", len(head), api.ErrLong)
	}
	for _, s := range []string{"(slot s1)", "(slot s16)", "(slot s8 (default 1))", "(slot s1) x", "(slot s1) (slot t)"} {
		refuses(t, head+s+")", len(head), api.ErrTwice)
	}
	more, _ := numbered(500)
	refuses(t, "(deftemplate d"+more+")", len(head), api.ErrLong)
}

// TestSlotRows: all short rows of some few slots are answered as one who looks at the promise's words alone, slot by slot, would.
func TestSlotRows(t *testing.T) {
	parts := []struct{ text, name string }{
		{"(slot a)", "a"}, {"(slot b)", "b"}, {"(slot c)", "c"}, {"(slot a (default 1))", "a"}, {"(slot b (default nil))", "b"}, {"(slot d (default \"s\"))", "d"}, {"x", ""}, {"(slot 5)", ""}, {"(slot a (default))", ""},
	}
	for n := range len(parts) * len(parts) * len(parts) * len(parts) {
		for _, ahead := range []int{0, api.MaxSlots - 2} {
			text, slots := numbered(ahead)
			s, want := "(deftemplate t"+text, ""
			var names []string
			for rest := n; rest > 0 && want == ""; rest /= len(parts) {
				p := parts[rest%len(parts)]
				s += " "
				here := fmt.Sprintf("char %d: ", len(s))
				switch {
				case p.name == "":
					want = here + "form"
				case slices.Contains(names, p.name):
					want = here + "twice"
				case ahead+len(names) == api.MaxSlots:
					want = here + "long"
				}
				names = append(names, p.name)
				s += p.text
			}
			x, err := tmpl.Parse(read(t, s+" )"))
			if sexp.Told(err) != want || want != "" && !equal(x, tmpl.Template{}) {
				t.Fatalf("P901: Parse(%q): %+v, %v, not %q", s, x, err, want)
			}
			if want == "" && len(x.Slots) != len(slots)+len(names) {
				t.Fatalf("P901: Parse(%q): %+v", s, x)
			}
		}
	}
}

// TestNodesThatWereNotRead: a Parse of any node is answered, as far as the promise's words go.
func TestNodesThatWereNotRead(t *testing.T) {
	sym := func(at int, s string) sexp.Node { return sexp.Node{Kind: api.Sym, At: at, S: s} }
	list := func(at int, kids ...sexp.Node) sexp.Node { return sexp.Node{At: at, Kids: kids} }
	define := func(kids ...sexp.Node) sexp.Node {
		return list(7, append([]sexp.Node{sym(8, "deftemplate")}, kids...)...)
	}
	good := define(sym(9, "d"), list(10, sym(11, "slot"), sym(12, "a"), list(13, sym(14, "default"), sym(15, "v"))))
	for _, kind := range []int{math.MinInt, -1, api.Int, api.Sym, api.Str, lex.Open, lex.Close, lex.Var, lex.Glob, lex.Not, 9, math.MaxInt} {
		refusesNode(t, sexp.Node{Kind: kind, At: 5, Kids: good.Kids}, 5, api.ErrForm)
		refusesNode(t, sexp.Node{Kind: kind, At: math.MinInt, S: "deftemplate"}, math.MinInt, api.ErrForm)
		refusesNode(t, define(sym(9, "d"), sexp.Node{Kind: kind, At: 5, Kids: good.Kids[2].Kids}), 5, api.ErrForm)
		refusesNode(t, define(sym(9, "d"), list(10, sym(11, "slot"), sym(12, "a"), sexp.Node{Kind: kind, Kids: good.Kids[2].Kids[2].Kids})), 10, api.ErrForm)
		if kind == api.Sym {
			continue
		}
		refusesNode(t, list(7, sexp.Node{Kind: kind, At: 5, S: "deftemplate"}, sym(9, "d")), 7, api.ErrForm)
		refusesNode(t, define(sexp.Node{Kind: kind, At: 5, S: "d"}), 7, api.ErrForm)
		refusesNode(t, define(sym(9, "d"), list(10, sexp.Node{Kind: kind, S: "slot"}, sym(12, "a"))), 10, api.ErrForm)
		refusesNode(t, define(sym(9, "d"), list(10, sym(11, "slot"), sexp.Node{Kind: kind, S: "a"})), 10, api.ErrForm)
		refusesNode(t, define(sym(9, "d"), list(10, sym(11, "slot"), sym(12, "a"), list(13, sexp.Node{Kind: kind, S: "default"}, sym(15, "v")))), 10, api.ErrForm)
	}
	for _, s := range []string{"", " ", "a b", "a\n", "\u00e9", "a\x00", times("x", api.MaxName+1), "9", "nil "} {
		refusesNode(t, define(sym(9, s)), 7, api.ErrForm)
		refusesNode(t, define(sym(9, "d"), list(10, sym(11, "slot"), sym(12, s))), 10, api.ErrForm)
	}
	refusesNode(t, list(3), 3, api.ErrForm)
	refusesNode(t, sexp.Node{Kids: make([]sexp.Node, 0, 4)}, 0, api.ErrForm)
	// What a leaf or a list holds beside its own fields is not told (P4).
	good.S, good.I, good.Kids[1].I, good.Kids[1].Kids = "s", 1, 1, []sexp.Node{sym(0, "x")}
	good.Kids[2].Kids[2].Kids[1].Kids = []sexp.Node{sym(0, "x"), list(0)}
	if x, err := tmpl.Parse(good); err != nil || !equal(x, template("d", slotOf("a", val.OfSym("v")))) {
		t.Errorf("P901: %+v, %v", x, err)
	}
}

// TestDeep: a node that was not read may be deeper than a stack of calls goes (P1).
func TestDeep(t *testing.T) {
	deep := sexp.Node{At: 77, Kids: []sexp.Node{{Kind: api.Sym, S: "slot"}}}
	for range 1000000 {
		deep = sexp.Node{At: 77, Kids: []sexp.Node{{Kind: api.Sym, S: "slot"}, {Kind: api.Sym, S: "a"}, deep}}
	}
	n := read(t, "(deftemplate d (slot b))")
	n.Kids = append(n.Kids, deep)
	if x, err := tmpl.Parse(n); sexp.Told(err) != "char 77: form" || !equal(x, tmpl.Template{}) {
		t.Errorf("P901: %v", err)
	}
	if _, err := tmpl.Parse(deep); sexp.Told(err) != "char 77: form" {
		t.Errorf("P901: %v", err)
	}
}

func TestSame(t *testing.T) {
	texts := []string{
		"(deftemplate a)", "(deftemplate b)", "(deftemplate A)", "(deftemplate a (slot a))", "(deftemplate b (slot a))", "(deftemplate a (slot b))", "(deftemplate a (slot a) (slot b))", "(deftemplate a (slot b) (slot a))", "(deftemplate a (slot a) (slot b) (slot c))",
		"(deftemplate a (slot a (default 1)))", "(deftemplate a (slot a (default 2)))", "(deftemplate a (slot a (default \"1\")))", "(deftemplate a (slot a (default x)))", "(deftemplate a (slot a (default \"x\")))", "(deftemplate a (slot a (default \"nil\")))", "(deftemplate a (slot a (default 1)) (slot b))", "(deftemplate a (slot a) (slot b (default 1)))",
	}
	for i, s := range texts {
		for k, u := range texts {
			// The same one stands elsewhere in its text.
			a, b := parse(t, s), parse(t, " \n"+strings.ReplaceAll(u, "(", " (  "))
			if tmpl.Same(a, b) != (i == k) || tmpl.Same(b, a) != (i == k) {
				t.Errorf("P901: Same(%q, %q) is not %v", s, u, i == k)
			}
		}
	}
	if !tmpl.Same(parse(t, "(deftemplate a (slot a (default nil)))"), parse(t, "(deftemplate a (slot a))")) {
		t.Error("P901: Same of nil, told and not told")
	}
	if a, b := template("a"), (tmpl.Template{Name: "a", Slots: make([]tmpl.Slot, 0, 3)}); !tmpl.Same(a, b) || !tmpl.Same(b, a) || !tmpl.Same(tmpl.Template{}, tmpl.Template{}) {
		t.Error("P901: Same of no list and an empty one")
	}
	room := []tmpl.Slot{slot("a"), slot("b")}
	if !tmpl.Same(template("a", room[:1]...), template("a", slot("a"))) {
		t.Error("P901: Same of spare room")
	}
}

// TestSameFields: all fields of a default count.
func TestSameFields(t *testing.T) {
	base := template("d", slot("a"), slotOf("b", api.Value{Kind: 7, I: 8, S: "v"}))
	for i, v := range []api.Value{{Kind: 6, I: 8, S: "v"}, {Kind: 7, I: 9, S: "v"}, {Kind: 7, I: 8, S: "w"}, {}} {
		other := template("d", slot("a"), slotOf("b", v))
		if tmpl.Same(base, other) || tmpl.Same(other, base) || !tmpl.Same(other, other) {
			t.Errorf("P901: Same: change %d", i)
		}
	}
}

func TestSlot(t *testing.T) {
	text, slots := numbered(api.MaxSlots)
	x := parse(t, "(deftemplate d"+text+")")
	for want, s := range slots {
		if i, ok := x.Slot(s.Name); i != want || !ok {
			t.Errorf("P901: Slot(%q): %d, %t, not %d", s.Name, i, ok, want)
		}
	}
	for _, s := range []string{"", "s", "s0", "s17", "S1", "s1 ", " s1", "d", "nil", "slot", "default", times("s1", 1000)} {
		if i, ok := x.Slot(s); i != 0 || ok {
			t.Errorf("P901: Slot(%q): %d, %t, and there is none", s, i, ok)
		}
	}
	for _, y := range []tmpl.Template{parse(t, "(deftemplate d)"), {}} {
		for _, s := range []string{"", "a", "d"} {
			if i, ok := y.Slot(s); i != 0 || ok {
				t.Errorf("P901: Slot(%q) of none: %d, %t", s, i, ok)
			}
		}
	}
}

// some are as many values, no two the same.
func some(n int) []api.Value {
	var l []api.Value
	for i := range n {
		l = append(l, val.OfInt(int64(100+i)))
	}
	return l
}

func TestFill(t *testing.T) {
	x := parse(t, "(deftemplate d (slot a) (slot b (default 7)) (slot c (default \"s\")))")
	none, seven, s := val.OfSym("nil"), val.OfInt(7), val.OfStr("s")
	one, two, three := val.OfInt(100), val.OfInt(101), val.OfInt(102)
	for _, c := range []struct {
		names string
		want  []api.Value
	}{
		{"", []api.Value{none, seven, s}},
		{"a", []api.Value{one, seven, s}}, {"b", []api.Value{none, one, s}}, {"c", []api.Value{none, seven, one}},
		{"a b", []api.Value{one, two, s}}, {"b a", []api.Value{two, one, s}}, {"c a", []api.Value{two, seven, one}},
		{"a b c", []api.Value{one, two, three}}, {"c b a", []api.Value{three, two, one}}, {"b c a", []api.Value{three, one, two}},
	} {
		names := strings.Fields(c.names)
		if l, err := x.Fill(names, some(len(names))); !slices.Equal(l, c.want) || err != api.OK {
			t.Errorf("P901: Fill(%q): %v, %v, not %v", c.names, l, err, c.want)
		}
	}
	// A value that is the default, and one that some slot has for its own, are as good as others.
	if l, err := x.Fill([]string{"b", "a", "c"}, []api.Value{none, s, s}); !slices.Equal(l, []api.Value{s, none, s}) || err != api.OK {
		t.Errorf("P901: %v, %v", l, err)
	}
	for _, y := range []tmpl.Template{parse(t, "(deftemplate d)"), {}} {
		if l, err := y.Fill(nil, []api.Value{}); len(l) != 0 || err != api.OK {
			t.Errorf("P901: Fill without slots: %v, %v", l, err)
		}
		if l, err := y.Fill([]string{"a"}, some(1)); len(l) != 0 || err != api.ErrName {
			t.Errorf("P901: Fill without slots: %v, %v", l, err)
		}
	}
}

// TestFillAll: all short rows of names, with as many values and others, are answered as the promise's words tell.
func TestFillAll(t *testing.T) {
	x := parse(t, "(deftemplate d (slot a) (slot b (default 7)) (slot c (default x)))")
	words := []string{"a", "b", "c", "d", ""}
	rows := [][]string{nil}
	for i := 0; i < len(rows); i++ {
		names := rows[i]
		for values := range 7 {
			l, err := x.Fill(names, some(values))
			want, wrong := filled(x, names, some(values))
			if err != wrong || !slices.Equal(l, want) {
				t.Fatalf("P901: Fill(%q), %d values: %v, %v, not %v, %v", names, values, l, err, want, wrong)
			}
		}
		if len(names) == 4 {
			continue
		}
		for _, word := range words {
			rows = append(rows, append(slices.Clone(names), word))
		}
	}
}

// filled tells what Fill is to answer, by the promise's words.
func filled(x tmpl.Template, names []string, l []api.Value) ([]api.Value, api.Errno) {
	if len(names) != len(l) {
		return nil, api.ErrArg
	}
	had := map[string]api.Value{}
	for i, name := range names {
		if !slices.ContainsFunc(x.Slots, func(s tmpl.Slot) bool { return s.Name == name }) {
			return nil, api.ErrName
		}
		if _, ok := had[name]; ok {
			return nil, api.ErrTwice
		}
		had[name] = l[i]
	}
	var all []api.Value
	for _, s := range x.Slots {
		v, ok := had[s.Name]
		if !ok {
			v = s.Default
		}
		all = append(all, v)
	}
	return all, api.OK
}

// TestFillGreat: a template with all its slots, and more names than it has slots.
func TestFillGreat(t *testing.T) {
	text, slots := numbered(api.MaxSlots)
	x := parse(t, "(deftemplate d"+text+")")
	var names []string
	for _, s := range slots {
		names = append(names, s.Name)
	}
	if l, err := x.Fill(names, some(api.MaxSlots)); !slices.Equal(l, some(api.MaxSlots)) || err != api.OK {
		t.Errorf("P901: %v, %v", l, err)
	}
	back := some(api.MaxSlots)
	slices.Reverse(names)
	slices.Reverse(back)
	if l, err := x.Fill(names, some(api.MaxSlots)); !slices.Equal(l, back) || err != api.OK {
		t.Errorf("P901: %v, %v", l, err)
	}
	for _, c := range []struct {
		more string
		want api.Errno
	}{{"s1", api.ErrTwice}, {"s16", api.ErrTwice}, {"s17", api.ErrName}, {"s1 s17", api.ErrTwice}, {"s17 s1", api.ErrName}} {
		all := append(slices.Clone(names), strings.Fields(c.more)...)
		if l, err := x.Fill(all, some(len(all))); len(l) != 0 || err != c.want {
			t.Errorf("P901: %q: %v, %v, not %v", c.more, l, err, c.want)
		}
		if l, err := x.Fill(all, some(api.MaxSlots)); len(l) != 0 || err != api.ErrArg {
			t.Errorf("P901: %q: %v, %v, not %v", c.more, l, err, api.ErrArg)
		}
	}
}

func TestText(t *testing.T) {
	for _, c := range []struct {
		s    string
		l    []api.Value
		want string
	}{
		{"(deftemplate d)", nil, "(d)"},
		{"(deftemplate dog (slot name))", []api.Value{val.OfSym("rex")}, "(dog (name rex))"},
		{"(deftemplate dog (slot name) (slot age (default 1)))", []api.Value{val.OfStr("rex"), val.OfInt(-5)}, "(dog (name \"rex\") (age -5))"},
		{"(deftemplate d (slot b) (slot a) (slot c (default 7)))", []api.Value{val.OfSym("nil"), val.OfStr("say \"\\"), val.OfStr("")}, `(d (b nil) (a "say \"\\") (c ""))`},
		{"(deftemplate d (slot a) (slot b))", []api.Value{val.OfInt(math.MinInt64), val.OfBool(false)}, "(d (a -9223372036854775808) (b FALSE))"},
	} {
		x := parse(t, c.s)
		s := x.Text(c.l)
		if s != c.want {
			t.Errorf("P901: Text: %q, not %q", s, c.want)
		}
		if again := sexp.Text(read(t, s)); again != s {
			t.Errorf("P901: Text %q is read as %q", s, again)
		}
	}
	text, slots := numbered(api.MaxSlots)
	want := "(d"
	for i, s := range slots {
		want += fmt.Sprintf(" (%s %d)", s.Name, 100+i)
	}
	if s := parse(t, "(deftemplate d"+text+")").Text(some(api.MaxSlots)); s != want+")" {
		t.Errorf("P901: Text: %q", s)
	}
}

// withRoom tells n with spare room, filled, behind each of its lists.
func withRoom(n sexp.Node) sexp.Node {
	kids := make([]sexp.Node, 0, len(n.Kids)+3)
	for _, kid := range n.Kids {
		kids = append(kids, withRoom(kid))
	}
	spare := kids[:cap(kids)]
	for i := len(kids); i < cap(kids); i++ {
		spare[i] = sexp.Node{Kind: api.Sym, S: "spare"}
	}
	n.Kids = kids
	return n
}

// copied tells a node that shares nothing with n, but for its spare room, which is as great.
func copied(n sexp.Node) sexp.Node {
	kids := make([]sexp.Node, cap(n.Kids))
	for i, kid := range n.Kids[:cap(n.Kids)] {
		kids[i] = copied(kid)
	}
	n.Kids = kids[:len(n.Kids)]
	return n
}

// equalRoom tells whether a and b are the same, their spare room too.
func equalRoom(a, b sexp.Node) bool {
	x, y := a.Kids[:cap(a.Kids)], b.Kids[:cap(b.Kids)]
	a.Kids, b.Kids = nil, nil
	return equalNodes(a, b) && slices.EqualFunc(x, y, equalRoom)
}

// spoil changes all of n, its spare room too.
func spoil(n *sexp.Node) {
	kids := n.Kids[:cap(n.Kids)]
	for i := range kids {
		spoil(&kids[i])
	}
	*n = sexp.Node{Kind: lex.Not, At: 1, I: 1, S: "spoilt"}
}

// TestParseTakesNothing: what is handed in is not changed, with its spare room, and not kept; each answer is new memory (P2); a refusal changes nothing (P3, P5).
func TestParseTakesNothing(t *testing.T) {
	full, _ := numbered(api.MaxSlots)
	for _, s := range []string{"(deftemplate d)", "(deftemplate d (slot a) (slot b (default 1)) (slot c (default \"s\")))", "(deftemplate d" + full + ")", "(deftemplate d" + full + " (slot t))", "(deftemplate d (slot a) (slot a))", "(defrule d (slot a))"} {
		n := withRoom(read(t, s))
		was := copied(n)
		first, errFirst := tmpl.Parse(n)
		kept, told := template(first.Name, slices.Clone(first.Slots)...), sexp.Told(errFirst)
		tmpl.Parse(read(t, "(deftemplate other (slot z (default 9)) (slot z))"))
		second, errSecond := tmpl.Parse(n)
		if !equalRoom(n, was) {
			t.Errorf("P901: Parse(%.80q) changed what it was handed", s)
		}
		spoil(&n)
		if !equal(first, kept) || !equal(second, kept) || sexp.Told(errFirst) != told || sexp.Told(errSecond) != told {
			t.Errorf("P901: Parse(%.80q) kept what it was handed, or is not the same again", s)
		}
		clear(first.Slots[:cap(first.Slots)])
		if !equal(second, kept) {
			t.Errorf("P901: Parse(%.80q): two answers share room", s)
		}
	}
}

// apart asks that no list has a place, its spare room too, that another one has.
func apart(t *testing.T, n sexp.Node, places map[*sexp.Node]int) {
	t.Helper()
	for i := range cap(n.Kids) {
		place := &n.Kids[:cap(n.Kids)][i]
		if places[place]++; places[place] > 1 {
			t.Error("P901: two lists share room")
		}
	}
	for _, kid := range n.Kids {
		apart(t, kid, places)
	}
}

// TestNodeTakesNothing: the nodes that are told are new ones, and the template stays as it is (P2).
func TestNodeTakesNothing(t *testing.T) {
	room := []tmpl.Slot{slot("a"), slotOf("b", val.OfInt(1)), slot("c"), slotOf("d", val.OfStr("s")), slot("spare")}
	were := slices.Clone(room)
	x := template("t", room[:4]...)
	first, second := tmpl.Node(x), tmpl.Node(x)
	places := map[*sexp.Node]int{}
	apart(t, first, places)
	apart(t, second, places)
	spoil(&first)
	if !slices.Equal(room, were) || !equalNodes(second, tmpl.Node(x)) {
		t.Error("P901: Node shares room")
	}
}

// TestFillTakesNothing: Fill and Text leave names, values and template as they are, with their spare room, and what Fill answers is new (P2); a refusal changes nothing (P5).
func TestFillTakesNothing(t *testing.T) {
	room := []tmpl.Slot{slot("a"), slotOf("b", val.OfInt(1)), slot("c"), slot("spare")}
	names, l := []string{"c", "a", "b", "spare"}, some(5)
	roomWas, namesWere, lWas := slices.Clone(room), slices.Clone(names), slices.Clone(l)
	x := template("t", room[:3]...)
	for n := range 4 {
		first, _ := x.Fill(names[:n], l[:n])
		second, err := x.Fill(names[:n], l[:n])
		kept := slices.Clone(first)
		x.Fill([]string{"a", "b", "a"}, some(3))
		x.Fill([]string{"a", "b", "z"}, some(3))
		x.Text(second)
		clear(first[:cap(first)])
		if !slices.Equal(second, kept) || err != api.OK {
			t.Errorf("P901: %d: %v, %v, not %v", n, second, err, kept)
		}
		clear(second[:cap(second)])
		if third, _ := x.Fill(names[:n], l[:n]); !slices.Equal(third, kept) {
			t.Errorf("P901: %d: %v, not %v", n, third, kept)
		}
	}
	if !slices.Equal(room, roomWas) || !slices.Equal(names, namesWere) || !slices.Equal(l, lWas) {
		t.Errorf("P901: changed: %v, %v, %v", room, names, l)
	}
	l = l[:3]
	got, _ := x.Fill(names[:3], l)
	clear(l)
	clear(names)
	if !slices.Equal(got, []api.Value{val.OfInt(101), val.OfInt(102), val.OfInt(100)}) {
		t.Errorf("P901: Fill kept its values: %v", got)
	}
}

// TestAnyTemplate: whatever template, names and values are handed in are answered (P1, P8).
func TestAnyTemplate(t *testing.T) {
	values := []api.Value{{}, {Kind: -1, I: 2, S: "v"}, {Kind: api.Int, S: "x"}, {Kind: lex.Not}, {Kind: lex.Close}, {Kind: math.MaxInt, I: math.MinInt64}, val.OfSym(""), val.OfStr("\xff")}
	var slots []tmpl.Slot
	for i, v := range values {
		slots = append(slots, slotOf([]string{"", "a", "a", "\x00\xff\""}[i%4], v))
	}
	for _, name := range []string{"", "a", "\xff(\"", times("x", 100000)} {
		for n := range len(slots) + 1 {
			x := template(name, slots[:n]...)
			sexp.Text(tmpl.Node(x))
			if !tmpl.Same(x, template(name, slices.Clone(slots[:n])...)) {
				t.Errorf("P901: Same of %d slots", n)
			}
			for k := range len(values) + 1 {
				x.Text(values[:k])
				x.Fill([]string{"a", "a", "", "b"}[:k%5], values[:k])
			}
			if i, ok := x.Slot("a"); ok != (n > 1) || ok && i != 1 {
				t.Errorf("P901: of two of one name the first one is taken (P9): %d, %t", i, ok)
			}
		}
	}
	var x tmpl.Template
	for i := range 100000 {
		x.Slots = append(x.Slots, slot(fmt.Sprint("s", i)))
	}
	if i, ok := x.Slot("s99999"); i != 99999 || !ok || len(tmpl.Node(x).Kids) != 100002 || !tmpl.Same(x, x) || len(x.Text(some(100000))) < 100000 {
		t.Error("P901: a great template")
	}
}
