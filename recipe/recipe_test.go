package recipe

import (
	"reflect"
	"strings"
	"testing"

	"apiary/api"
)

// act is an action.
func act(name, code string, inputs ...string) api.Action {
	return api.Action{Named: api.Named{Name: name}, Inputs: inputs, Code: code}
}

// of is a build of actions alone.
func of(actions ...api.Action) api.Graph { return api.Graph{Actions: actions} }

// from is a build of sources alone.
func from(sources ...string) api.Graph { return api.Graph{Sources: sources} }

// allBytes is n bytes, from the first one on, all that there are one behind the other.
func allBytes(first, n int) string {
	b := make([]byte, n)
	for i := range b {
		b[i] = byte(first + i)
	}
	return string(b)
}

// widest is the build with the longest text.
func widest() api.Graph {
	g := api.Graph{}
	for range 8 {
		g.Sources = append(g.Sources, "zzzzzzz9")
	}
	for i := range 12 {
		g.Actions = append(g.Actions, act("aaaaaaa0", allBytes(i*64, 64), "abcdefgh", "ijklmnop", "qrstuvwx", "yz012345"))
	}
	return g
}

// P7.1: names have 1 to 8 bytes.
func TestNameLength(t *testing.T) {
	for n := range 40 {
		for _, c := range []string{"a", "z", "0", "9"} {
			if got := IsName(strings.Repeat(c, n)); got != (n >= 1 && n <= 8) {
				t.Errorf("%d times %q: %v", n, c, got)
			}
		}
	}
	if IsName(strings.Repeat("a", 1<<20)) {
		t.Error("a long text is a name")
	}
}

// P7.1: names have small letters and digits alone, at each place.
func TestNameBytes(t *testing.T) {
	const may = "abcdefghijklmnopqrstuvwxyz0123456789"
	for c := range 256 {
		s := string([]byte{byte(c)})
		for n := 1; n <= 8; n++ {
			for at := range n {
				name := strings.Repeat("m", at) + s + strings.Repeat("5", n-1-at)
				if got := IsName(name); got != strings.Contains(may, s) {
					t.Errorf("%q: %v", name, got)
				}
			}
		}
	}
	for _, s := range []string{"ä", "é", "a b", "a\n", "\na", " a", "a ", "a-b", "-", "A", "aB", "a_b", "\u0430", "\uff11", "\u0661"} {
		if IsName(s) {
			t.Errorf("%q is a name", s)
		}
	}
	for _, s := range []string{"source", "make", "from", "by", "0", "00", "a0", "0a", "zzzzzzzz"} {
		if !IsName(s) {
			t.Errorf("%q is no name", s)
		}
	}
}

// written are builds and their texts.
func written() []struct {
	g    api.Graph
	text string
} {
	return []struct {
		g    api.Graph
		text string
	}{
		{api.Graph{}, ""},
		{api.Graph{Sources: []string{}, Actions: []api.Action{}}, ""},
		{from("a"), "source a\n"},
		{from("b", "a", "b"), "source b\nsource a\nsource b\n"},
		{from("1", "2", "3", "4", "5", "6", "7", "8"), "source 1\nsource 2\nsource 3\nsource 4\nsource 5\nsource 6\nsource 7\nsource 8\n"},
		{from("source", "make"), "source source\nsource make\n"},
		{of(act("x", "")), "make x by -\n"},
		{of(act("x", "i\x00c", "a", "a")), "make x from a a by 690063\n"},
		{of(act("x", "\x00")), "make x by 00\n"},
		{of(act("x", "\xff\x0f\xf0\x9a")), "make x by ff0ff09a\n"},
		{of(act("x", "-")), "make x by 2d\n"},
		{of(act("x", "\n ")), "make x by 0a20\n"},
		{of(act("x", "", "a")), "make x from a by -\n"},
		{of(act("x", "", "a", "b", "c", "d")), "make x from a b c d by -\n"},
		{of(act("y", ""), act("x", "", "x"), act("y", "", "y")), "make y by -\nmake x from x by -\nmake y from y by -\n"},
		{of(act("by", "", "by")), "make by from by by -\n"},
		{of(act("by", "")), "make by by -\n"},
		{of(act("from", "")), "make from by -\n"},
		{of(act("from", "", "from")), "make from from from by -\n"},
		{of(act("make", "", "by", "by", "from", "by")), "make make from by by from by by -\n"},
		{of(act("source", "", "source", "00")), "make source from source 00 by -\n"},
		{api.Graph{Sources: []string{"a"}, Actions: []api.Action{act("x", "i\x00r", "a"), act("a", "")}}, "source a\nmake x from a by 690072\nmake a by -\n"},
	}
}

// P7.1, P7.2 and P7.3: builds and their texts, both ways; which names there are doesn't matter.
func TestTexts(t *testing.T) {
	for _, c := range written() {
		if text, e := Print(c.g); text != c.text || e != 0 {
			t.Errorf("%v: %q, %d, not %q", c.g, text, e, c.text)
		}
		if g, n, e := Parse(c.text); !Same(g, c.g) || n != 0 || e != 0 {
			t.Errorf("%q: %v, %d, %d", c.text, g, n, e)
		}
	}
}

// P7.1: the widest build can be written, and its text be read.
func TestWidest(t *testing.T) {
	g := widest()
	text, e := Print(g)
	if e != 0 || len(text) != 8*16+12*187 || strings.Count(text, "\n") != 20 {
		t.Fatalf("%d bytes, %d: %q", len(text), e, text)
	}
	if got, n, e := Parse(text); !Same(got, g) || n != 0 || e != 0 {
		t.Error(got, n, e)
	}
}

// P7.1: what can't be written.
func TestCantBeWritten(t *testing.T) {
	long := strings.Repeat("a", 1<<20)
	table := []api.Graph{
		from(""), from("a", ""), from("", "a"), from("A"), from("a b"), from("a\n"), from("abcdefghi"), from(long), from("a", "b", "c", "d", "e", "f", "g", "-"),
		from("1", "2", "3", "4", "5", "6", "7", "8", "9"), from(make([]string, 1000)...),
		of(act("", "")), of(act("A", "")), of(act("abcdefghi", "")), of(act(long, "")), of(act("a b", "")), of(act("x\n", "")),
		of(act("x", "", "")), of(act("x", "", "a", "B")), of(act("x", "", "a", "b", "c", "")), of(act("x", "", "abcdefghi")), of(act("x", "", "a b")),
		of(act("x", "", "a", "b", "c", "d", "e")), of(act("x", "", make([]string, 1000)...)),
		of(act("x", allBytes(0, 65))), of(act("x", long)),
		of(act("x", ""), act("y", ""), act("", "")), of(make([]api.Action, 1)...),
		{Sources: []string{"a"}, Actions: []api.Action{act("x", "", "-")}},
		{Sources: []string{"-"}, Actions: []api.Action{act("x", "")}},
	}
	many := widest()
	many.Actions = append(many.Actions, act("x", ""))
	more := widest()
	more.Sources = append(more.Sources, "a")
	last := widest()
	last.Actions[11].Code += "x"
	lastInput := widest()
	lastInput.Actions[11].Inputs[3] += "x"
	table = append(table, many, more, last, lastInput)
	for i, g := range table {
		if text, e := Print(g); text != "" || e != api.ErrArg {
			t.Errorf("%d: %.80q, %d", i, text, e)
		}
	}
}

// P7.1: builds differ in each field, whatever they hold; nil and empty lists are one.
func TestSame(t *testing.T) {
	long := strings.Repeat("a", 1000)
	table := []api.Graph{
		{}, from(""), from("", ""), from("a"), from("b"), from("a", "b"), from("b", "a"), from("ab"), from("a b"), from("A"), from(long), from(long + "a"), from(make([]string, 100)...),
		of(api.Action{}), of(api.Action{}, api.Action{}), of(act("x", "")), of(act("y", "")), of(act("", "x")), of(act("x", "x")), of(act("x", "y")), of(act("x", "", "")), of(act("x", "", "", "")),
		of(act("x", "", "a")), of(act("x", "", "b")), of(act("x", "", "a", "b")), of(act("x", "", "b", "a")), of(act("x", "", "ab")), of(act("x", "", "a", "a")), of(act("", "", "x")), of(act("x", "a")),
		of(act("x", ""), act("y", "")), of(act("y", ""), act("x", "")), of(act("x", "", "a"), act("y", "")), of(act("x", ""), act("y", "", "a")), of(act("x", long)), of(act("x", long+"a")),
		{Sources: []string{"a"}, Actions: []api.Action{act("x", "")}}, {Sources: []string{"x"}, Actions: []api.Action{act("a", "")}}, {Sources: []string{"a"}, Actions: []api.Action{act("x", "", "a")}},
		widest(),
	}
	for i, a := range table {
		for j, b := range table {
			if got := Same(a, b); got != (i == j) {
				t.Errorf("%v, %v: %v", a, b, got)
			}
		}
		if !Same(a, deep(a)) {
			t.Errorf("%v isn't the same as another one like it", a)
		}
	}
	for _, pair := range [][2]api.Graph{
		{{}, {Sources: []string{}, Actions: []api.Action{}}},
		{{Sources: []string{}}, {Actions: []api.Action{}}},
		{of(act("x", "")), {Sources: []string{}, Actions: []api.Action{{Named: api.Named{Name: "x"}, Inputs: []string{}}}}},
	} {
		if !Same(pair[0], pair[1]) || !Same(pair[1], pair[0]) {
			t.Error(pair)
		}
	}
}

// deep is a build like another one, of new memory with spare room.
func deep(g api.Graph) api.Graph {
	out := api.Graph{Sources: append(make([]string, 0, len(g.Sources)+3), g.Sources...), Actions: make([]api.Action, 0, len(g.Actions)+3)}
	for _, a := range g.Actions {
		a.Inputs = append(make([]string, 0, len(a.Inputs)+3), a.Inputs...)
		out.Actions = append(out.Actions, a)
	}
	return out
}

// wrong is a text that is no build's, the line that is told, and the error.
type wrong struct {
	text string
	n    int
	e    api.Errno
}

// checkWrong fails unless each text has its error, and nothing beside it.
func checkWrong(t *testing.T, table []wrong) {
	t.Helper()
	for _, c := range table {
		g, n, e := Parse(c.text)
		if n != c.n || e != c.e || len(g.Sources) != 0 || len(g.Actions) != 0 {
			t.Errorf("%.80q: %v, %d, %d, not %d, %d", c.text, g, n, e, c.n, c.e)
		}
	}
}

// P7.2: texts that are too long, whatever they have.
func TestLong(t *testing.T) {
	good, _ := Print(widest())
	fill := func(s string, n int) string { return s + strings.Repeat("x", n-len(s)) }
	checkWrong(t, []wrong{
		{strings.Repeat("\n", 8192), 1, api.ErrWord},
		{strings.Repeat("\n", 8193), 0, api.ErrLong},
		{strings.Repeat("x", 8192), 1, api.ErrForm},
		{strings.Repeat("x", 8193), 0, api.ErrLong},
		{strings.Repeat("x", 8191) + "\n", 1, api.ErrWord},
		{strings.Repeat("x", 8192) + "\n", 0, api.ErrLong},
		{strings.Repeat(" ", 8191) + "\n", 1, api.ErrWord},
		{"make x from" + strings.Repeat(" a", 4000) + " by -\n", 1, api.ErrWord},
		{"make x by " + strings.Repeat("00", 4000) + "\n", 1, api.ErrWord},
		{fill(good, 8192), 21, api.ErrForm},
		{fill(good, 8193), 0, api.ErrLong},
		{strings.Repeat("source a\n", 1<<20), 0, api.ErrLong},
	})
}

// P7.2: a line without an end, behind lines that are fine; a wrong line ahead of it is told first.
func TestNoEnd(t *testing.T) {
	checkWrong(t, []wrong{
		{"source a", 1, api.ErrForm},
		{"x", 1, api.ErrForm},
		{" ", 1, api.ErrForm},
		{"\r", 1, api.ErrForm},
		{"source a\nsource b", 2, api.ErrForm},
		{"source a\nmake x by -", 2, api.ErrForm},
		{"source a\nmake x by -\nsource", 3, api.ErrForm},
		{"make x by -\nsource a", 2, api.ErrForm},
		{"A\nsource a", 1, api.ErrWord},
		{"source a\nA\nsource a", 2, api.ErrWord},
		{"\n\nx", 1, api.ErrWord},
		{strings.Repeat("source a\n", 8) + "source a", 9, api.ErrForm},
		{strings.Repeat("source a\n", 9) + "source a", 9, api.ErrWord},
		{strings.Repeat("make a by -\n", 12) + "make a by -", 13, api.ErrForm},
		{"source a\nmake x from a b c d e by -", 2, api.ErrForm},
	})
}

// P7.2: lines of neither kind, alone and behind others.
func TestNoLine(t *testing.T) {
	lines := []string{
		"", " ", "a", "-", "\x00", "\xff", "# a", "\r", "\t",
		"source", "source ", "source  ", " source a", "source a ", "source  a", "source a b", "source a by -", "source A", "source -", "source abcdefghi", "source a\r", "source\ta", "source\u00a0a", "Source a", "SOURCE a", "sources a", "sourcea", "source ä", "source a\x00",
		"make", "make ", "make x", "make x ", "make x by", "make x by ", "make x by  ", "make x by - ", "make  x by -", "make x  by -", "make x by  -", " make x by -", "make x by - -", "make x by 00 00", "make x by 00 by 00",
		"make by -", "make x -", "make x 00", "make -", "make X by -", "make - by -", "make  by -", "make abcdefghi by -", "Make x by -", "make x By -", "make x BY -", "made x by -", "make\tx by -", "make x by\t-", "make x by -\r",
		"make x from", "make x from by", "make x from by -", "make x from  by -", "make x from a", "make x from a by", "make x from a by ", "make x from a -", "make x from a  by -", "make x from  a by -", "make x  from a by -", "make x from a b  c by -", "make x from A by -", "make x from a B by -", "make x from - by -", "make x from abcdefghi by -",
		"make x a by -", "make x a b by -", "make x FROM a by -", "make x form a by -", "make x by a by -", "make x by a from -", "make from a by -", "make x from a from b by -x", "make x from a by - from b", "make x by - from a",
		"make x from a b c d e by -", "make x from a a a a a by 00", "make x from a b c d e f g h by -", "make x from from by by by by by by -",
		"make x by 0", "make x by 000", "make x by 0g", "make x by g0", "make x by 0A", "make x by A0", "make x by FF", "make x by -0", "make x by 0-", "make x by --", "make x by -00", "make x by +0", "make x by 0x00", "make x by 0_00", "make x by 0 0", "make x by  00", "make x by 00 ", "make x by 00\r", "make x by \xff\xff", "make x by \u0660\u0660",
		"make x by " + strings.Repeat("00", 65), "make x by " + strings.Repeat("0", 129), "make x by " + strings.Repeat("0", 127), "make x by " + strings.Repeat("00", 63) + "0G", "make x by " + strings.Repeat("00", 1000),
		"done", "give a 00", "build 1",
	}
	table := []wrong{}
	for _, s := range lines {
		table = append(table,
			wrong{s + "\n", 1, api.ErrWord},
			wrong{"source a\nsource b\n" + s + "\n", 3, api.ErrWord},
			wrong{"source a\nmake y by -\n" + s + "\nmake z by -\n", 3, api.ErrWord},
			wrong{s + "\nsource a\n\n", 1, api.ErrWord},
		)
	}
	checkWrong(t, table)
}

// P7.2: lines that are fine by themselves, but one too many, or at the wrong place.
func TestNoPlace(t *testing.T) {
	sources := strings.Repeat("source a\n", 8)
	actions := strings.Repeat("make x from a by 00\n", 12)
	checkWrong(t, []wrong{
		{"make x by -\nsource a\n", 2, api.ErrWord},
		{"source a\nmake x by -\nsource b\nmake y by -\n", 3, api.ErrWord},
		{"source a\nmake x by -\nmake y by -\nsource b\n", 4, api.ErrWord},
		{sources + "source b\n", 9, api.ErrWord},
		{sources + "source b\nsource b\n", 9, api.ErrWord},
		{actions + "make y by -\n", 13, api.ErrWord},
		{actions + "source a\n", 13, api.ErrWord},
		{sources + actions + "make y by -\n", 21, api.ErrWord},
		{sources + actions + "source b\n", 21, api.ErrWord},
		{sources + actions + "\n", 21, api.ErrWord},
		{sources + "\n" + actions, 9, api.ErrWord},
		{sources + "make x by -\nsource a\n", 10, api.ErrWord},
	})
	if g, n, e := Parse(sources + actions); len(g.Sources) != 8 || len(g.Actions) != 12 || n != 0 || e != 0 {
		t.Error(g, n, e)
	}
}

// Rule 3: what is handed in stays as it is, its spare room too.
func TestHandedIn(t *testing.T) {
	room := []string{"a", "b", "spare"}
	inputs := []string{"a", "b", "room", "more", "still"}
	actions := []api.Action{act("x", "i\x00", inputs[:2]...), act("y", "z", inputs[:1]...), act("spare", "")}
	g := api.Graph{Sources: room[:2], Actions: actions[:2]}
	text, e := Print(g)
	if text != "source a\nsource b\nmake x from a b by 6900\nmake y from a by 7a\n" || e != 0 {
		t.Errorf("%q, %d", text, e)
	}
	Same(g, deep(g))
	if !reflect.DeepEqual(room, []string{"a", "b", "spare"}) || !reflect.DeepEqual(inputs, []string{"a", "b", "room", "more", "still"}) || actions[2].Name != "spare" || len(actions[0].Inputs) != 2 {
		t.Error(room, inputs, actions)
	}
}

// overwrite makes all else of a list, its spare room too.
func overwrite(list []string) {
	list = list[:cap(list)]
	for i := range list {
		list[i] = "other"
	}
}

// Rule 3: an answer is new memory, no two lists of it share any.
func TestNewMemory(t *testing.T) {
	text, _ := Print(widest())
	for i := range 13 {
		g, _, _ := Parse(text)
		want := deep(g)
		if i == 12 {
			overwrite(g.Sources)
			want.Sources = g.Sources
		} else {
			overwrite(g.Actions[i].Inputs)
			want.Actions[i].Inputs = g.Actions[i].Inputs
		}
		if !Same(g, want) {
			t.Errorf("list %d is shared with another one", i)
		}
		if again, _, _ := Parse(text); !Same(again, widest()) {
			t.Errorf("list %d is shared with another answer", i)
		}
	}
}

// Rule 4: nothing is kept from call to call.
func TestNothingKept(t *testing.T) {
	for range 3 {
		for _, c := range written() {
			Parse("source a\nmake x by -\nA\n")
			Print(from("A"))
			if g, n, e := Parse(c.text); !Same(g, c.g) || n != 0 || e != 0 {
				t.Errorf("%q: %v, %d, %d", c.text, g, n, e)
			}
			if text, e := Print(c.g); text != c.text || e != 0 {
				t.Errorf("%v: %q, %d", c.g, text, e)
			}
		}
	}
}

// The chapter's examples.
func TestExamples(t *testing.T) {
	g, n, e := Parse("source a\nmake x from a a by 690063\n")
	if !Same(g, api.Graph{Sources: []string{"a"}, Actions: []api.Action{act("x", "i\x00c", "a", "a")}}) || n != 0 || e != 0 {
		t.Error(g, n, e)
	}
	g, n, e = Parse("make x by -\n")
	if !Same(g, of(act("x", ""))) || n != 0 || e != 0 {
		t.Error(g, n, e)
	}
}
