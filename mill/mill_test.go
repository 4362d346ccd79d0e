package mill

import (
	"crypto/sha256"
	"math/rand"
	"slices"
	"strconv"
	"strings"
	"testing"

	"apiary/api"
)

// text is n bytes of all kinds, the same ones for the same n.
func text(n int) string {
	b := make([]byte, n)
	rand.New(rand.NewSource(int64(n))).Read(b)
	return string(b)
}

// put is the step that puts a text.
func put(s string) string { return "p" + string([]byte{byte(len(s))}) + s }

// row is a code, its inputs, and what it comes to.
type row struct {
	code   string
	inputs []string
	blob   string
	e      api.Errno
	steps  int
}

// checkRows fails unless each code comes to what its row says.
func checkRows(t *testing.T, table []row) {
	t.Helper()
	for _, c := range table {
		r, n := Run(c.code, c.inputs...)
		if r.Blob != c.blob || r.Code != c.e || n != c.steps {
			t.Errorf("%q of %q: %q, %d in %d steps, not %q, %d in %d", c.code, c.inputs, r.Blob, r.Code, n, c.blob, c.e, c.steps)
		}
	}
}

// P6.1: what each step does.
func TestEachStep(t *testing.T) {
	abc := sha256.Sum256([]byte("abc"))
	none := sha256.Sum256(nil)
	in := []string{"abc", "xy", "", "abc"}
	checkRows(t, []row{
		{"i\x00", in, "abc", 0, 1},
		{"i\x01", in, "xy", 0, 1},
		{"i\x02", in, "", 0, 1},
		{"i\x03", in, "abc", 0, 1},
		{"i\x00i\x01", in, "xy", 0, 2},
		{"p\x00", nil, "", 0, 1},
		{"p\x01p", nil, "p", 0, 1},
		{"p\x03a\x00\xff", nil, "a\x00\xff", 0, 1},
		{put(text(62)), nil, text(62), 0, 1},
		{"i\x00i\x01c", in, "abcxy", 0, 3},
		{"i\x01i\x00c", in, "xyabc", 0, 3},
		{"i\x02i\x00c", in, "abc", 0, 3},
		{"i\x02dc", in, "", 0, 3},
		{"p\x01zi\x00i\x01cc", in, "zabcxy", 0, 5},
		{"i\x00d", in, "abc", 0, 2},
		{"i\x00dc", in, "abcabc", 0, 3},
		{"i\x00i\x01s", in, "abc", 0, 3},
		{"i\x00i\x01sc", in, "xyabc", 0, 4},
		{"p\x01zi\x00i\x01sxx", in, "z", 0, 6},
		{"i\x00i\x01x", in, "abc", 0, 3},
		{"i\x00r", in, "cba", 0, 2},
		{"i\x02r", in, "", 0, 2},
		{"p\x04\x00\xc3\xa4zr", nil, "z\xa4\xc3\x00", 0, 2},
		{"p\x01ai\x00rc", in, "acba", 0, 4},
		{"i\x00h", in, string(abc[:]), 0, 2},
		{"i\x02h", in, string(none[:]), 0, 2},
		{"i\x00l", in, "3", 0, 2},
		{"i\x02l", in, "0", 0, 2},
		{"i\x00hl", in, "32", 0, 3},
		{"i\x00t\x00", in, "", 0, 2},
		{"i\x00t\x01", in, "a", 0, 2},
		{"i\x00t\x03", in, "abc", 0, 2},
		{"i\x00t\x04", in, "abc", 0, 2},
		{"i\x00t\xff", in, "abc", 0, 2},
		{"i\x00k\x00", in, "abc", 0, 2},
		{"i\x00k\x02", in, "c", 0, 2},
		{"i\x00k\x03", in, "", 0, 2},
		{"i\x00k\x04", in, "", 0, 2},
		{"i\x00k\xff", in, "", 0, 2},
		{"i\x00i\x03=", in, "1", 0, 3},
		{"i\x00i\x01=", in, "", 0, 3},
		{"i\x02d=", in, "1", 0, 3},
		{"i\x02i\x00=", in, "", 0, 3},
		{"i\x01i\x00i\x03=c", in, "xy1", 0, 5},
	})
	for _, n := range []int{9, 10, 99, 100, 200, 255, 256, 511, 512} {
		s := text(n)
		checkRows(t, []row{
			{"i\x00l", []string{s}, strconv.Itoa(n), 0, 2},
			{"i\x00t\xff", []string{s}, s[:min(n, 255)], 0, 2},
			{"i\x00k\xff", []string{s}, s[min(n, 255):], 0, 2},
			{"i\x00rr", []string{s}, s, 0, 3},
		})
	}
}

// P6.1: where a code goes on behind a jump.
func TestJumps(t *testing.T) {
	in := []string{"abc", ""}
	checkRows(t, []row{
		{"g\x02i\x00", in, "abc", 0, 2},
		{"g\x03zi\x00", in, "abc", 0, 2},
		{"i\x00g\x04", in, "abc", 0, 2},
		{"g\x02", in, "", api.ErrStack, 1},
		{"g\x03", in, "", api.ErrOp, 1},
		{"g\xff", in, "", api.ErrOp, 1},
		{"i\x00g\x05", in, "", api.ErrOp, 2},
		{"i\x00g\xff", in, "", api.ErrOp, 2},
		{"i\x01j\x06zzi\x00", in, "abc", 0, 3},
		{"i\x00i\x01j\x06", in, "abc", 0, 3},
		{"i\x00i\x00j\xff", in, "abc", 0, 3},
		{"i\x00j\x06i\x00r", in, "cba", 0, 4},
		{"i\x01j\x07", in, "", api.ErrOp, 2},
		{"i\x01j\x04", in, "", api.ErrStack, 2},
		{"i\x00i\x00j\xffi\x01x", in, "abc", 0, 5},
		// Into the middle of a step: its bytes are read anew from there.
		{"g\x04p\x03i\x00rx", in, "", api.ErrStack, 4},
		{"g\x04p\x02i\x00", in, "abc", 0, 2},
		{"g\x03zi\x00r", in, "cba", 0, 3},
		{"g\x01", in, "", api.ErrOp, 1},
		// Back, till the top is used up.
		{"i\x00k\x01dj\x09g\x02x", in, "", api.ErrStack, 13},
		{"i\x00k\x01dj\x09g\x02p\x01e", in, "e", 0, 13},
	})
}

// P6.1: what ends a code ahead of its step isn't counted.
func TestNoStep(t *testing.T) {
	table := []row{
		{"", nil, "", api.ErrStack, 0},
		{"", []string{"abc"}, "", api.ErrStack, 0},
		{"i\x00x", []string{"abc"}, "", api.ErrStack, 2},
		{"i\x00z", []string{"abc"}, "", api.ErrOp, 1},
		{"i\x00p", []string{"abc"}, "", api.ErrOp, 1},
		{"i\x00p\x01", []string{"abc"}, "", api.ErrOp, 1},
		{"p\x03co", nil, "", api.ErrOp, 0},
		{"p\xff" + text(62), nil, "", api.ErrOp, 0},
		{"p\x3f" + text(62), nil, "", api.ErrOp, 0},
		{"\x00", nil, "", api.ErrOp, 0},
		{"\xff", nil, "", api.ErrOp, 0},
		{"I\x00", []string{"abc"}, "", api.ErrOp, 0},
		{"0", nil, "", api.ErrOp, 0},
	}
	for _, s := range []string{"i", "p", "t", "k", "j", "g"} {
		table = append(table, row{s, []string{"abc"}, "", api.ErrOp, 0})
		table = append(table, row{"i\x00" + s, []string{"abc"}, "", api.ErrOp, 1})
	}
	checkRows(t, table)
	for b := range 256 {
		s := string([]byte{byte(b)})
		r, n := Run(s+"\x00", "abc")
		if known := strings.Contains("ipcdsxrhltk=jg", s); (n == 0) != !known || !known && r.Code != api.ErrOp {
			t.Errorf("the byte %x: %v in %d steps", b, r, n)
		}
	}
}

// P6.1: inputs that there aren't, also where the stack is full.
func TestNoInput(t *testing.T) {
	full := strings.Repeat("p\x00", 8)
	checkRows(t, []row{
		{"i\x00", nil, "", api.ErrOp, 1},
		{"i\x01", []string{"a"}, "", api.ErrOp, 1},
		{"i\x04", []string{"a", "b", "c", "d"}, "", api.ErrOp, 1},
		{"i\xff", []string{"a", "b", "c", "d"}, "", api.ErrOp, 1},
		{"i\x03", []string{"a", "b", "c", "d"}, "d", 0, 1},
		{full + "i\x01", []string{"a"}, "", api.ErrOp, 9},
		{full + "i\x00", []string{"a"}, "", api.ErrStack, 9},
	})
}

// P6.1: too few things on the stack, or too many.
func TestStackBounds(t *testing.T) {
	in := []string{"abc"}
	table := []row{}
	for _, s := range []string{"c", "d", "s", "x", "r", "h", "l", "t\x00", "k\x00", "=", "j\x00"} {
		table = append(table, row{s, in, "", api.ErrStack, 1})
		table = append(table, row{"i\x00x" + s, in, "", api.ErrStack, 3})
	}
	for _, s := range []string{"c", "s", "="} {
		table = append(table, row{"i\x00" + s, in, "", api.ErrStack, 2})
		table = append(table, row{"i\x00dx" + s, in, "", api.ErrStack, 4})
	}
	eight := "i\x00" + strings.Repeat("d", 7)
	for _, s := range []string{"i\x00", "p\x00", "p\x01a", "d"} {
		table = append(table, row{eight + s, in, "", api.ErrStack, 9})
		table = append(table, row{eight + "x" + s + "p\x00", in, "", api.ErrStack, 11})
	}
	table = append(table,
		row{eight, in, "abc", 0, 8},
		row{eight + "s", in, "abc", 0, 9},
		row{eight + "r", in, "cba", 0, 9},
		row{eight + "c", in, "abcabc", 0, 9},
		row{eight + "cccccc", in, strings.Repeat("abc", 7), 0, 14},
		row{eight + "ccccccc", in, strings.Repeat("abc", 8), 0, 15},
		row{eight + "cccccccc", in, "", api.ErrStack, 16},
		row{eight + "xi\x00", in, "abc", 0, 10},
		row{strings.Repeat("i\x00", 8), in, "abc", 0, 8},
		row{strings.Repeat("i\x00", 9), in, "", api.ErrStack, 9},
		row{strings.Repeat("p\x00", 8), in, "", 0, 8},
		row{strings.Repeat("p\x00", 9), in, "", api.ErrStack, 9},
	)
	checkRows(t, table)
}

// P6.1: a blob of 512 bytes is made, none of one byte more.
func TestWidth(t *testing.T) {
	checkRows(t, []row{
		{"i\x00", []string{text(512)}, text(512), 0, 1},
		{"i\x00p\x00c", []string{text(512)}, text(512), 0, 3},
		{"p\x00i\x00c", []string{text(512)}, text(512), 0, 3},
		{"i\x00p\x01xc", []string{text(511)}, text(511) + "x", 0, 3},
		{"i\x00p\x01xc", []string{text(512)}, "", api.ErrWide, 3},
		{"p\x01xi\x00c", []string{text(512)}, "", api.ErrWide, 3},
		{"i\x00dc", []string{text(256)}, text(256) + text(256), 0, 3},
		{"i\x00dc", []string{text(257)}, "", api.ErrWide, 3},
		{"i\x00dc", []string{text(512)}, "", api.ErrWide, 3},
		{"i\x00dcxp\x01a", []string{text(257)}, "", api.ErrWide, 3},
		{"i\x00i\x01cl", []string{text(500), text(12)}, "512", 0, 4},
		{"i\x00i\x01cl", []string{text(500), text(13)}, "", api.ErrWide, 3},
		{strings.Repeat("i\x00", 8) + "cc", []string{text(200)}, "", api.ErrWide, 10},
		{"p\x01a" + strings.Repeat("dc", 9), nil, strings.Repeat("a", 512), 0, 19},
		{"p\x01a" + strings.Repeat("dc", 10), nil, "", api.ErrWide, 21},
	})
}

// cutting is a code that takes 4 steps for each byte of its input but the last one, for which it takes 3, and one step ahead of them; it ends with the tail.
func cutting(tail string) string { return "i\x00k\x01dj\x09g\x02" + tail }

// P6.1: 300 steps may be done, none more; the end and what is no step are told ahead of it.
func TestFuel(t *testing.T) {
	// Behind the loop 1 + 4n - 1 steps are done, of n bytes: 288 for 72, 296 for 74, 300 for 75.
	in := func(n int) []string { return []string{text(n)} }
	nops := func(n int) string { return strings.Repeat("r", n) }
	checkRows(t, []row{
		{"g\x00", nil, "", api.ErrFuel, 300},
		{"i\x00xg\x00", in(1), "", api.ErrFuel, 300},
		{"p\x00g\x00", nil, "", api.ErrStack, 17},
		{"p\x00j\x00", nil, "", api.ErrFuel, 300},
		{cutting(""), in(75), "", 0, 300},
		{cutting("r"), in(75), "", api.ErrFuel, 300},
		{cutting("z"), in(75), "", api.ErrOp, 300},
		{cutting("p\x01"), in(75), "", api.ErrOp, 300},
		{cutting("i\x09"), in(75), "", api.ErrFuel, 300},
		{cutting("c"), in(75), "", api.ErrFuel, 300},
		{cutting(""), in(76), "", api.ErrFuel, 300},
		{cutting(""), in(512), "", api.ErrFuel, 300},
		{cutting(nops(3)), in(74), "", 0, 299},
		{cutting(nops(4)), in(74), "", 0, 300},
		{cutting(nops(5)), in(74), "", api.ErrFuel, 300},
		{cutting(nops(3) + "c"), in(74), "", api.ErrStack, 300},
		{cutting(nops(3) + "i\x01"), in(74), "", api.ErrOp, 300},
		{cutting(nops(2) + "xg\xff"), in(74), "", api.ErrOp, 300},
		{cutting(nops(3) + "z"), in(74), "", api.ErrOp, 299},
		{cutting(nops(4) + "z"), in(74), "", api.ErrOp, 300},
		{cutting(nops(3) + "x"), in(74), "", api.ErrStack, 300},
		{cutting(nops(3) + "l"), in(74), "0", 0, 300},
	})
}

// P6.1: a code that is too long, too many inputs, or one that is no blob: nothing is run.
func TestLong(t *testing.T) {
	four := []string{"", "", "", ""}
	checkRows(t, []row{
		{"p\x3e" + text(62), nil, text(62), 0, 1},
		{"i\x00" + strings.Repeat("r", 62), []string{"ab"}, "ab", 0, 63},
		{"i\x00" + strings.Repeat("r", 63), []string{"ab"}, "", api.ErrLong, 0},
		{strings.Repeat("z", 64), nil, "", api.ErrOp, 0},
		{strings.Repeat("z", 65), nil, "", api.ErrLong, 0},
		{strings.Repeat("z", 100000), nil, "", api.ErrLong, 0},
		{"i\x03", four, "", 0, 1},
		{"i\x00", append(four[:4:4], ""), "", api.ErrLong, 0},
		{"", append(four[:4:4], "", "", ""), "", api.ErrLong, 0},
		{"i\x00", make([]string, 1000), "", api.ErrLong, 0},
		{"i\x00", []string{text(512), text(512), text(512), text(512)}, text(512), 0, 1},
		{"i\x00", []string{text(513)}, "", api.ErrLong, 0},
		{"i\x00", []string{"a", text(513)}, "", api.ErrLong, 0},
		{"i\x00", []string{"a", "", "", text(513)}, "", api.ErrLong, 0},
		{"", []string{text(513)}, "", api.ErrLong, 0},
		{"z", []string{text(100000)}, "", api.ErrLong, 0},
	})
}

// checkSteps fails unless Steps answers what the model does.
func checkSteps(t *testing.T, code string) {
	t.Helper()
	got, e := Steps(code)
	want, wantE := modelSteps(code)
	if !slices.Equal(got, want) || e != wantE {
		t.Fatalf("%q: %q, %d, not %q, %d", code, got, e, want, wantE)
	}
	if e == 0 && strings.Join(got, "") != code {
		t.Fatalf("%q: the steps %q are other bytes", code, got)
	}
}

// P6.2: a code's steps as they stand.
func TestSteps(t *testing.T) {
	table := []struct {
		code string
		want []string
		e    api.Errno
	}{
		{"", nil, 0},
		{"c", []string{"c"}, 0},
		{"cdsxrhl=", []string{"c", "d", "s", "x", "r", "h", "l", "="}, 0},
		{"i\x00t\x01k\xffj\x09gg", []string{"i\x00", "t\x01", "k\xff", "j\x09", "gg"}, 0},
		{"i\x09g\xffc", []string{"i\x09", "g\xff", "c"}, 0},
		{"g\x00", []string{"g\x00"}, 0},
		{"p\x00", []string{"p\x00"}, 0},
		{"p\x00p\x02zzx", []string{"p\x00", "p\x02zz", "x"}, 0},
		{"p\x02p\x00", []string{"p\x02p\x00"}, 0},
		{"p\x3e" + text(62), []string{"p\x3e" + text(62)}, 0},
		{"p\x3f" + text(62), nil, api.ErrOp},
		{"p\xff" + text(62), nil, api.ErrOp},
		{"p", nil, api.ErrOp},
		{"p\x01", nil, api.ErrOp},
		{"ccp\x02a", nil, api.ErrOp},
		{"cz", nil, api.ErrOp},
		{"zc", nil, api.ErrOp},
		{"g\x03z", nil, api.ErrOp},
		{"\x00", nil, api.ErrOp},
		{strings.Repeat("c", 64), slices.Repeat([]string{"c"}, 64), 0},
		{strings.Repeat("i\x00", 32), slices.Repeat([]string{"i\x00"}, 32), 0},
		{strings.Repeat("c", 65), nil, api.ErrLong},
		{strings.Repeat("z", 65), nil, api.ErrLong},
		{"p\x3f" + text(63), nil, api.ErrLong},
		{strings.Repeat("z", 100000), nil, api.ErrLong},
	}
	for _, s := range []string{"i", "t", "k", "j", "g"} {
		table = append(table, struct {
			code string
			want []string
			e    api.Errno
		}{"c" + s, nil, api.ErrOp})
	}
	for _, c := range table {
		got, e := Steps(c.code)
		if !slices.Equal(got, c.want) || e != c.e {
			t.Errorf("%q: %q, %d", c.code, got, e)
		}
		checkSteps(t, c.code)
	}
}

// P6.3: what other runs were given doesn't matter; inputs that a code doesn't take neither.
func TestInputsAlone(t *testing.T) {
	code := "i\x00i\x01cdhcr"
	want, steps := Run(code, "ab", "cd")
	for _, other := range []string{"g\x00", "i\x00dddddddd", "z", "", "p\x01a"} {
		Run(other, "zz", text(512))
		if got, n := Run(code, "ab", "cd"); got != want || n != steps {
			t.Errorf("behind %q: %v in %d steps", other, got, n)
		}
	}
	for _, rest := range [][]string{{""}, {"x"}, {text(512), "y"}} {
		if got, n := Run(code, append([]string{"ab", "cd"}, rest...)...); got != want || n != steps {
			t.Errorf("with %d inputs more: %v in %d steps", len(rest), got, n)
		}
	}
}

// Rule 3: the inputs stay as they are, their spare room too; answers share nothing.
func TestMemory(t *testing.T) {
	list := []string{"ab", "cd", "spare", "room"}
	if r, n := Run("i\x00i\x01sri\x00c", list[:2]...); r.Code != 0 || n != 6 {
		t.Error(r, n)
	}
	if r, _ := Run("i\x02", list[:2]...); r.Code != api.ErrOp {
		t.Error("the spare room is taken for an input")
	}
	Run(strings.Repeat("p\x01z", 8), list[:2]...)
	if !slices.Equal(list, []string{"ab", "cd", "spare", "room"}) {
		t.Error(list)
	}
	a, _ := Steps("cd")
	b, _ := Steps("cd")
	a[0] = "other"
	if c, _ := Steps("cd"); b[0] != "c" || c[0] != "c" {
		t.Error("the list is shared")
	}
}

// The chapter's examples.
func TestExamples(t *testing.T) {
	checkRows(t, []row{
		{"i\x00i\x01c", []string{"ab", "cd"}, "abcd", 0, 3},
		{"g\x00", nil, "", api.ErrFuel, 300},
	})
}
