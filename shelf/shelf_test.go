package shelf

import (
	"math"
	"math/rand"
	"slices"
	"strings"
	"testing"

	"apiary/api"
)

// check fails unless a call answers this error.
func check(t *testing.T, what string, got, want api.Errno) {
	t.Helper()
	if got != want {
		t.Errorf("%s: %d, not %d", what, got, want)
	}
}

// has fails unless the slots, from the first on, have these texts.
func has(t *testing.T, s *Shelf, texts ...string) {
	t.Helper()
	for at, want := range texts {
		if got, e := s.Read(at); got != want || e != api.OK {
			t.Errorf("the slot %d: %q, %d, not %q", at, got, e, want)
		}
	}
}

// counts fails unless the shelf tells this of its power.
func counts(t *testing.T, s *Shelf, down bool, acts, life int) {
	t.Helper()
	if s.Down() != down || s.Acts() != acts || s.Life() != life {
		t.Errorf("off %t, %d acts, gone %d times, not %t, %d, %d", s.Down(), s.Acts(), s.Life(), down, acts, life)
	}
}

// unsure is a shelf whose slots have the texts of sure, and then, unsure, those of texts.
func unsure(t *testing.T, sure, texts []string) *Shelf {
	t.Helper()
	s := New(len(texts))
	for at, text := range sure {
		check(t, "Write", s.Write(at, text), api.OK)
	}
	check(t, "Sync", s.Sync(), api.OK)
	for at, text := range texts {
		check(t, "Write", s.Write(at, text), api.OK)
	}
	return s
}

// P4.1: as many slots as asked for, within the limits; all empty, the power on.
func TestNew(t *testing.T) {
	table := []struct{ slots, want int }{
		{math.MinInt, 0}, {math.MinInt + 1, 0}, {-129, 0}, {-128, 0}, {-1, 0}, {0, 0}, {1, 1}, {2, 2}, {64, 64}, {127, 127},
		{128, 128}, {129, 128}, {200, 128}, {1 << 32, 128}, {math.MaxInt - 1, 128}, {math.MaxInt, 128},
	}
	for _, c := range table {
		s := New(c.slots)
		if s.Len() != c.want {
			t.Errorf("%d slots: %d", c.slots, s.Len())
		}
		counts(t, s, false, 0, 0)
		has(t, s, make([]string, c.want)...)
		if _, e := s.Read(c.want); e != api.ErrArg {
			t.Errorf("%d slots: one more is there, %d", c.slots, e)
		}
	}
}

// P4.1: nothing is armed at first.
func TestNewUnarmed(t *testing.T) {
	s := New(2)
	for n := range 500 {
		check(t, "Write", s.Write(n%2, "x"), api.OK)
		check(t, "Sync", s.Sync(), api.OK)
	}
	counts(t, s, false, 1000, 0)
}

// P4.1, P4.2 and rule 5: a nil shelf.
func TestNil(t *testing.T) {
	var s *Shelf
	s.On()
	s.On(1, 2)
	s.Arm(1)
	s.Off()
	for _, at := range []int{math.MinInt, -1, 0, 1, math.MaxInt} {
		check(t, "Write", s.Write(at, "x"), api.ErrNil)
		check(t, "Write", s.Write(at, strings.Repeat("x", 641)), api.ErrNil)
		if text, e := s.Read(at); text != "" || e != api.ErrNil {
			t.Errorf("Read: %q, %d", text, e)
		}
	}
	check(t, "Sync", s.Sync(), api.ErrNil)
	counts(t, s, true, 0, 0)
	if s.Len() != 0 {
		t.Error(s.Len())
	}
}

// P4.2: a slot has what was written last, whatever the bytes, and the others what they had.
func TestWrite(t *testing.T) {
	all := make([]byte, 256)
	for i := range all {
		all[i] = byte(i)
	}
	s := New(3)
	texts := []string{"", "a", "abc", "\x00", "\xff\xfe", "ä", string(all), strings.Repeat("w", 639), strings.Repeat("w", 640), "", "b"}
	for n, text := range texts {
		check(t, "Write", s.Write(1, text), api.OK)
		has(t, s, "", text, "")
		counts(t, s, false, n+1, 0)
	}
	check(t, "Write", s.Write(0, "first"), api.OK)
	check(t, "Write", s.Write(2, "last"), api.OK)
	has(t, s, "first", "b", "last")
	check(t, "Sync", s.Sync(), api.OK)
	has(t, s, "first", "b", "last")
	full := New(128)
	for at := range 128 {
		check(t, "Write", full.Write(at, strings.Repeat("x", at)), api.OK)
	}
	for at := range 128 {
		if text, e := full.Read(at); len(text) != at || e != api.OK {
			t.Errorf("the slot %d: %d bytes, %d", at, len(text), e)
		}
	}
}

// P4.2 and rule 7: what can't be written changes nothing: no slot, no count, no fate, nothing of what is armed.
func TestWriteArg(t *testing.T) {
	for _, n := range []int{0, 1, 2, 128} {
		s := New(n)
		for _, at := range []int{math.MinInt, math.MinInt + 1, -128, -1, n, n + 1, 128, 129, 1 << 32, math.MaxInt} {
			check(t, "Write", s.Write(at, "x"), api.ErrArg)
			check(t, "Write", s.Write(at, ""), api.ErrArg)
			check(t, "Write", s.Write(at, strings.Repeat("x", 641)), api.ErrArg)
			if text, e := s.Read(at); text != "" || e != api.ErrArg {
				t.Errorf("%d of %d slots: %q, %d", at, n, text, e)
			}
		}
		counts(t, s, false, 0, 0)
	}
	s := unsure(t, []string{"abc", "def"}, []string{"abc", "def"})
	check(t, "Sync", s.Sync(), api.OK)
	check(t, "Write", s.Write(1, "two"), api.OK)
	s.Arm(1)
	for _, length := range []int{641, 642, 1280, 100000} {
		check(t, "Write", s.Write(0, strings.Repeat("x", length)), api.ErrArg)
	}
	check(t, "Write", s.Write(-1, "x"), api.ErrArg)
	check(t, "Write", s.Write(2, "x"), api.ErrArg)
	counts(t, s, false, 7, 0)
	has(t, s, "abc", "two")
	check(t, "Sync", s.Sync(), api.ErrDown)
	s.On(1, 0)
	has(t, s, "abc", "two")
}

// P4.2: without power nothing is written, read or made sure, and that is told ahead of all else; nothing is counted.
func TestDown(t *testing.T) {
	s := unsure(t, []string{"abc", "def"}, []string{"12", "345"})
	s.Off()
	counts(t, s, true, 5, 1)
	for _, at := range []int{math.MinInt, -1, 0, 1, 2, math.MaxInt} {
		check(t, "Write", s.Write(at, "x"), api.ErrDown)
		check(t, "Write", s.Write(at, strings.Repeat("x", 641)), api.ErrDown)
		if text, e := s.Read(at); text != "" || e != api.ErrDown {
			t.Errorf("%d: %q, %d", at, text, e)
		}
	}
	check(t, "Sync", s.Sync(), api.ErrDown)
	counts(t, s, true, 5, 1)
	if s.Len() != 2 {
		t.Error(s.Len())
	}
	s.On(0, 1)
	has(t, s, "abc", "345")
	counts(t, s, false, 5, 1)
}

// P4.2 and P4.3: the chapter's examples, and others, of one slot that had abc and was written as xy or 12345.
func TestFates(t *testing.T) {
	table := []struct {
		text string
		fate int
		want string
	}{
		{"xy", 1, "xy"}, {"xy", 0, "abc"}, {"xy", 5, "xbc"}, {"xy", 2, "abc"}, {"xy", 8, "xyc"}, {"xy", 11, "abc"}, {"xy", 14, "xbc"},
		{"xy", 3, "abc"}, {"xy", 4, "xy"}, {"xy", 6, "abc"}, {"xy", 7, "xy"},
		{"xy", -1, "abc"}, {"xy", -2, "xy"}, {"xy", -3, "abc"}, {"xy", -4, "xyc"}, {"xy", -5, "xy"}, {"xy", -6, "abc"},
		{"xy", -7, "xbc"}, {"xy", -10, "abc"}, {"xy", -13, "xyc"},
		{"12345", 2, "abc"}, {"12345", 5, "1bc"}, {"12345", 8, "12c"}, {"12345", 11, "123"}, {"12345", 14, "1234"}, {"12345", 17, "12345"}, {"12345", 20, "abc"},
		{"12345", -4, "12345"}, {"12345", -7, "1234"}, {"12345", -19, "abc"},
		{"", 0, "abc"}, {"", 1, ""}, {"", 2, "abc"}, {"", 5, "abc"}, {"", -1, "abc"}, {"", -2, ""}, {"", -4, "abc"},
		// 2^63 - 1 is 3 times 3074457345618258602 and 1 more; -2^63 that below 0 and 2 less.
		{"xy", math.MaxInt, "xy"}, {"xy", math.MaxInt - 1, "abc"}, {"xy", math.MaxInt - 2, "xbc"},
		{"xy", math.MinInt, "xy"}, {"xy", math.MinInt + 1, "xbc"}, {"xy", math.MinInt + 2, "abc"},
	}
	for _, c := range table {
		s := unsure(t, []string{"abc"}, []string{c.text})
		has(t, s, c.text)
		s.Off()
		s.On(c.fate)
		if got, e := s.Read(0); got != c.want || e != api.OK {
			t.Errorf("%q, the fate %d: %q, %d, not %q", c.text, c.fate, got, e, c.want)
		}
	}
}

// torn is a text's first bytes, so many, ahead of the end of another one, byte by byte.
func torn(text, sure string, n int) string {
	b := []byte{}
	for i := range max(n, len(sure)) {
		if i < n {
			b = append(b, text[i])
		} else {
			b = append(b, sure[i])
		}
	}
	return string(b)
}

// fated is what a fate leaves, counted off: fates go round through a slot's ends, three for each place at which it can be torn.
func fated(text, sure string, fate int) string {
	places := len(text) + 1
	quotient := fate / 3
	for fate < 0 {
		fate += 3
	}
	for quotient < 0 {
		quotient += places
	}
	return []string{sure, text, torn(text, sure, quotient%places)}[fate%3]
}

// P4.3: texts of all small lengths, fates on both sides of 0.
func TestFatesAll(t *testing.T) {
	for long := range 7 {
		for short := range 7 {
			text, sure := "123456"[:long], "abcdef"[:short]
			for fate := -70; fate <= 70; fate++ {
				s := unsure(t, []string{sure}, []string{text})
				s.Off()
				s.On(fate)
				has(t, s, fated(text, sure, fate))
			}
		}
	}
	wide, other := strings.Repeat("w", 640), strings.Repeat("o", 640)
	for _, n := range []int{0, 1, 63, 319, 639, 640} {
		for _, fate := range []int{3*n + 2, 3*(n+641) + 2, 3*(n-641) - 1, 3*(n-2*641) - 1} {
			s := unsure(t, []string{other}, []string{wide})
			s.Off()
			s.On(fate)
			has(t, s, wide[:n]+other[n:])
		}
	}
}

// P4.3: fates go to the unsure slots alone, rising, and round.
func TestFatesPlaces(t *testing.T) {
	sure := []string{"a", "b", "c", "d", "e"}
	table := []struct {
		written []int
		fates   []int
		want    string
	}{
		{[]int{0, 1, 2, 3, 4}, nil, "a b c d e"},
		{[]int{0, 1, 2, 3, 4}, []int{}, "a b c d e"},
		{[]int{0, 1, 2, 3, 4}, []int{0}, "a b c d e"},
		{[]int{0, 1, 2, 3, 4}, []int{1}, "A B C D E"},
		{[]int{0, 1, 2, 3, 4}, []int{1, 0}, "A b C d E"},
		{[]int{4, 3, 2, 1, 0}, []int{0, 1}, "a B c D e"},
		{[]int{0, 1, 2, 3, 4}, []int{0, 0, 1}, "a b C d e"},
		{[]int{4, 2, 0, 1, 3}, []int{1, 0, 0, 0}, "A b c d E"},
		{[]int{0, 1, 2, 3, 4}, []int{0, 0, 0, 0, 1}, "a b c d E"},
		{[]int{0, 1, 2, 3, 4}, []int{0, 0, 0, 0, 0, 1}, "a b c d e"},
		{[]int{3, 1}, []int{1, 0}, "a B c d e"},
		{[]int{3, 1}, []int{0, 1}, "a b c D e"},
		{[]int{4, 1, 3}, []int{1, 0}, "a B c d E"},
		{[]int{4, 1, 3}, []int{1, 0, 0, 1}, "a B c d e"},
		{[]int{2, 2, 2, 4}, []int{0, 1}, "a b c d E"},
		{[]int{2}, []int{0, 1, 1, 1}, "a b c d e"},
		{[]int{}, []int{1, 1, 1}, "a b c d e"},
	}
	for _, c := range table {
		s := unsure(t, sure, sure)
		check(t, "Sync", s.Sync(), api.OK)
		for _, at := range c.written {
			check(t, "Write", s.Write(at, strings.ToUpper(sure[at])), api.OK)
		}
		s.Off()
		s.On(c.fates...)
		has(t, s, strings.Split(c.want, " ")...)
	}
}

// P4.3: a slot that was written as it was is unsure, and takes a fate; so is one that was written back.
func TestFatesSameText(t *testing.T) {
	s := unsure(t, []string{"a", "b", "c"}, []string{"a", "B", "c"})
	s.Off()
	s.On(0, 1)
	has(t, s, "a", "B", "c")
	check(t, "Write", s.Write(0, "x"), api.OK)
	check(t, "Write", s.Write(0, "a"), api.OK)
	check(t, "Write", s.Write(2, "z"), api.OK)
	s.Off()
	s.On(0, 1)
	has(t, s, "a", "B", "z")
	check(t, "Write", s.Write(1, "B"), api.OK)
	check(t, "Write", s.Write(2, "y"), api.OK)
	s.Off()
	s.On(1, 0)
	has(t, s, "a", "B", "z")
}

// P4.3: when the power is back all is sure, at once what the fates left.
func TestOnSure(t *testing.T) {
	s := unsure(t, []string{"abc", "abc", "abc"}, []string{"xy", "xy", "xy"})
	s.Off()
	s.On(0, 1, 5)
	for _, fates := range [][]int{{1}, {0}, {2, 5}, nil} {
		s.Off()
		s.On(fates...)
		has(t, s, "abc", "xy", "xbc")
	}
	check(t, "Write", s.Write(2, "12345"), api.OK)
	s.Off()
	s.On()
	has(t, s, "abc", "xy", "xbc")
	check(t, "Write", s.Write(2, "12345"), api.OK)
	s.Off()
	s.On(5)
	has(t, s, "abc", "xy", "1bc")
	counts(t, s, false, 9, 7)
}

// P4.3: power that is on can't come back: nothing takes a fate, nothing is sure by that, nothing is armed or not.
func TestOnTwice(t *testing.T) {
	s := unsure(t, []string{"abc"}, []string{"xy"})
	s.Arm(2)
	for _, fates := range [][]int{nil, {0}, {1}, {5}} {
		s.On(fates...)
		has(t, s, "xy")
		counts(t, s, false, 3, 0)
	}
	check(t, "Write", s.Write(0, "z"), api.OK)
	check(t, "Sync", s.Sync(), api.ErrDown)
	s.On(0)
	s.On(1)
	has(t, s, "abc")
}

// P4.3: power that is off can't go.
func TestOffTwice(t *testing.T) {
	s := unsure(t, []string{"abc"}, []string{"xy"})
	for range 3 {
		s.Off()
		counts(t, s, true, 3, 1)
	}
	s.On(1)
	has(t, s, "xy")
	counts(t, s, false, 3, 1)
	s.Off()
	s.Off()
	counts(t, s, true, 3, 2)
}

// P4.2 and P4.3: the power goes in the n-th act, neither ahead of it nor behind, and once.
func TestArm(t *testing.T) {
	for n := 1; n <= 12; n++ {
		s := New(1)
		s.Arm(n)
		for act := 1; act <= n; act++ {
			has(t, s, strings.Repeat("x", (act-1)/2))
			counts(t, s, false, act-1, 0)
			want := api.OK
			if act == n {
				want = api.ErrDown
			}
			if act%2 == 0 {
				check(t, "Write", s.Write(0, strings.Repeat("x", act/2)), want)
			} else {
				check(t, "Sync", s.Sync(), want)
			}
		}
		counts(t, s, true, n, 1)
		s.On(1)
		for range 30 {
			check(t, "Sync", s.Sync(), api.OK)
		}
		counts(t, s, false, n+30, 1)
	}
}

// P4.3: below 1 nothing is armed; what is armed last counts, from its own time on.
func TestArmAgain(t *testing.T) {
	table := []struct {
		first, acts, then int
		last              int // acts behind the second Arm that go well
	}{
		{1, 0, 0, 20}, {1, 0, -1, 20}, {1, 0, math.MinInt, 20}, {5, 4, 0, 20}, {5, 4, -5, 20},
		{1, 0, 2, 1}, {1, 0, 5, 4}, {5, 0, 1, 0}, {5, 3, 4, 3}, {5, 4, 5, 4}, {5, 4, 1, 0}, {0, 3, 2, 1}, {-7, 3, 1, 0},
		{math.MaxInt, 3, 3, 2}, {3, 2, math.MaxInt, 20}, {math.MinInt, 20, 1, 0},
	}
	for _, c := range table {
		s := New(1)
		s.Arm(c.first)
		for range c.acts {
			check(t, "Sync", s.Sync(), api.OK)
		}
		s.Arm(c.then)
		well := 0
		for well < 20 && s.Sync() == api.OK {
			well++
		}
		if well != c.last {
			t.Errorf("Arm(%d), %d acts, Arm(%d): %d go well, not %d", c.first, c.acts, c.then, well, c.last)
		}
	}
}

// P4.3: only acts are counted down: reads aren't any, nor calls that are refused, nor those that ask.
func TestArmNoActs(t *testing.T) {
	s := New(1)
	s.Arm(2)
	for range 5 {
		has(t, s, "")
		s.Read(9)
		check(t, "Write", s.Write(9, "x"), api.ErrArg)
		check(t, "Write", s.Write(0, strings.Repeat("x", 641)), api.ErrArg)
		s.On(1)
		s.Len()
		counts(t, s, false, 0, 0)
	}
	check(t, "Write", s.Write(0, "x"), api.OK)
	check(t, "Write", s.Write(0, "y"), api.ErrDown)
	counts(t, s, true, 2, 1)
}

// P4.3: behind Off nothing is armed, when the power was off already, too.
func TestArmOff(t *testing.T) {
	s := New(1)
	s.Arm(1)
	s.Off()
	s.On()
	check(t, "Sync", s.Sync(), api.OK)
	s.Off()
	s.Arm(1)
	s.Off()
	s.On()
	check(t, "Sync", s.Sync(), api.OK)
	counts(t, s, false, 2, 2)
}

// P4.3: what is armed without power counts the acts behind On.
func TestArmDown(t *testing.T) {
	s := New(1)
	s.Off()
	s.Arm(2)
	check(t, "Write", s.Write(0, "x"), api.ErrDown)
	check(t, "Sync", s.Sync(), api.ErrDown)
	check(t, "Sync", s.Sync(), api.ErrDown)
	s.On()
	counts(t, s, false, 0, 1)
	check(t, "Write", s.Write(0, "x"), api.OK)
	check(t, "Sync", s.Sync(), api.ErrDown)
	counts(t, s, true, 2, 2)
	s.Arm(1)
	s.Arm(0)
	s.On(1)
	has(t, s, "x")
	check(t, "Sync", s.Sync(), api.OK)
}

// P4.2: when the power goes in a Write, its text is there, unsure, with all that was unsure.
func TestCutWrite(t *testing.T) {
	table := []struct {
		fates []int
		want  []string
	}{
		{nil, []string{"abc", "def"}}, {[]int{1}, []string{"12", "345"}}, {[]int{0, 1}, []string{"abc", "345"}},
		{[]int{1, 0}, []string{"12", "def"}}, {[]int{0, 5}, []string{"abc", "3ef"}}, {[]int{8, 11}, []string{"12c", "345"}},
	}
	for _, c := range table {
		s := unsure(t, []string{"abc", "def"}, []string{"12", "?"})
		s.Arm(1)
		check(t, "Write", s.Write(1, "345"), api.ErrDown)
		counts(t, s, true, 6, 1)
		if text, e := s.Read(1); text != "" || e != api.ErrDown {
			t.Errorf("%q, %d", text, e)
		}
		s.On(c.fates...)
		has(t, s, c.want...)
	}
	s := unsure(t, []string{"abc", "def"}, []string{"abc", "def"})
	check(t, "Sync", s.Sync(), api.OK)
	s.Arm(1)
	check(t, "Write", s.Write(1, "x"), api.ErrDown)
	s.On(1, 0)
	has(t, s, "abc", "x")
}

// P4.2: when the power goes in a Sync, nothing more is sure than was.
func TestCutSync(t *testing.T) {
	for _, c := range []struct {
		fate int
		want string
	}{{0, "abc"}, {1, "xy"}, {5, "xbc"}} {
		s := unsure(t, []string{"abc", "-"}, []string{"xy", "-"})
		s.Arm(1)
		check(t, "Sync", s.Sync(), api.ErrDown)
		counts(t, s, true, 6, 1)
		s.On(c.fate)
		has(t, s, c.want, "-")
	}
}

// P4.4: what was written in between, and is neither sure nor last, leaves nothing.
func TestBetween(t *testing.T) {
	for fate := -40; fate <= 40; fate++ {
		s := unsure(t, []string{"abc"}, []string{strings.Repeat("?", 640)})
		check(t, "Write", s.Write(0, "??????"), api.OK)
		check(t, "Write", s.Write(0, "12"), api.OK)
		s.Off()
		s.On(fate)
		has(t, s, fated("12", "abc", fate))
	}
}

// ends are all that the chapter lets a slot have behind the power: what was sure, what was written last, or a beginning of that ahead of the end of what was sure.
func ends(text, sure string) []string {
	list := []string{sure, text}
	for n := range len(text) + 1 {
		list = append(list, torn(text, sure, n))
	}
	return list
}

// P4.4: wherever the power goes in a row of acts, and whatever the fates are.
func TestWhereverItGoes(t *testing.T) {
	r := rand.New(rand.NewSource(4))
	type act struct {
		at   int // below 0: a Sync
		text string
	}
	for range 150 {
		acts := make([]act, 12)
		for i := range acts {
			acts[i] = act{at: r.Intn(5) - 1, text: "0123456789"[:r.Intn(11)]}
		}
		for n := 1; n <= len(acts); n++ {
			s := New(4)
			s.Arm(n)
			last, sure, written := [4]string{}, [4]string{}, [4]bool{}
			for i, a := range acts[:n] {
				want := api.OK
				if i == n-1 {
					want = api.ErrDown
				}
				if a.at >= 0 {
					text := string(rune('a'+i)) + a.text
					check(t, "Write", s.Write(a.at, text), want)
					last[a.at], written[a.at] = text, true
					continue
				}
				check(t, "Sync", s.Sync(), want)
				if want == api.OK {
					sure, written = last, [4]bool{}
				}
			}
			s.On(r.Int()-r.Int(), r.Intn(100)-50, r.Intn(9))
			for at := range 4 {
				got, e := s.Read(at)
				if e != api.OK || written[at] && !slices.Contains(ends(last[at], sure[at]), got) || !written[at] && got != sure[at] {
					t.Fatalf("the slot %d: %q, %d; sure %q, last %q, written %t", at, got, e, sure[at], last[at], written[at])
				}
			}
		}
	}
}

// model is a shelf made the long way: all that was written since the last Sync as a list, and the number of the act in which the power goes.
type model struct {
	sure    []string
	written []int // places, in order
	texts   []string
	off     bool
	goesIn  int // the number of an act, 0: of none
	acts    int
	life    int
}

func (m *model) last(at int) (string, bool) {
	for i := len(m.written) - 1; i >= 0; i-- {
		if m.written[i] == at {
			return m.texts[i], true
		}
	}
	return m.sure[at], false
}

func (m *model) cut() {
	if !m.off {
		m.life++
	}
	m.off, m.goesIn = true, 0
}

// act is whether the power lasts through one.
func (m *model) act() bool {
	m.acts++
	if m.acts == m.goesIn {
		m.cut()
	}
	return !m.off
}

func (m *model) settle(fates []int) {
	next := 0
	for at := range m.sure {
		text, written := m.last(at)
		if !written {
			continue
		}
		fate := 0
		if len(fates) > 0 {
			fate = fates[next%len(fates)]
		}
		m.sure[at] = fated(text, m.sure[at], fate)
		next++
	}
	m.written, m.texts = nil, nil
}

func (m *model) write(at int, text string) api.Errno {
	if m.off {
		return api.ErrDown
	}
	if at < 0 || at >= len(m.sure) || len(text) > 640 {
		return api.ErrArg
	}
	m.written, m.texts = append(m.written, at), append(m.texts, text)
	if !m.act() {
		return api.ErrDown
	}
	return api.OK
}

func (m *model) sync() api.Errno {
	if m.off || !m.act() {
		return api.ErrDown
	}
	m.settle([]int{1})
	return api.OK
}

// same fails unless a shelf tells all that the model does.
func (m *model) same(t *testing.T, s *Shelf) {
	t.Helper()
	counts(t, s, m.off, m.acts, m.life)
	for at := -1; at <= len(m.sure); at++ {
		want, e := "", api.ErrArg
		if m.off {
			e = api.ErrDown
		} else if at >= 0 && at < len(m.sure) {
			want, _ = m.last(at)
			e = api.OK
		}
		if got, ge := s.Read(at); got != want || ge != e {
			t.Fatalf("the slot %d: %q, %d, not %q, %d", at, got, ge, want, e)
		}
	}
}

// drive plays bytes as calls, on a shelf and on its model.
func drive(t *testing.T, script string) {
	t.Helper()
	s, m := New(5), &model{sure: make([]string, 5)}
	for len(script) >= 3 {
		a, b := int(script[1]), int(script[2])
		switch script[0] % 10 {
		case 0, 1, 2, 3:
			at, text := a%8-1, strings.Repeat(script[1:3], b%7)
			if b == 255 {
				text = strings.Repeat("x", 640+a%2)
			}
			check(t, "Write", s.Write(at, text), m.write(at, text))
		case 4, 5:
			check(t, "Sync", s.Sync(), m.sync())
		case 6:
			s.Off()
			m.cut()
		case 7, 8:
			fates := []int{a - 128, b - 128, a*b - 1000, a}[:a%5%4]
			s.On(fates...)
			if m.off {
				m.off = false
				m.settle(fates)
			}
		case 9:
			n := a%9 - 2
			s.Arm(n)
			m.goesIn = 0
			if n > 0 {
				m.goesIn = m.acts + n
			}
		}
		m.same(t, s)
		script = script[3:]
	}
}

// P4.1 to P4.4: calls at random, each held against the model.
func TestAnyCalls(t *testing.T) {
	r := rand.New(rand.NewSource(44))
	for range 2000 {
		b := make([]byte, 3*(1+r.Intn(80)))
		r.Read(b)
		drive(t, string(b))
		if t.Failed() {
			return
		}
	}
}

// Rules 3 and 4: what is handed in stays as it is, and isn't kept; shelves know nothing of each other.
func TestMemory(t *testing.T) {
	fates := []int{1, 0, 7, 9}
	a := unsure(t, []string{"a", "b", "c"}, []string{"A", "B", "C"})
	b := unsure(t, []string{"a", "b", "c"}, []string{"A", "B", "C"})
	a.Arm(1)
	a.Off()
	a.On(fates[:2]...)
	if !slices.Equal(fates, []int{1, 0, 7, 9}) {
		t.Error(fates)
	}
	has(t, a, "A", "b", "C")
	has(t, b, "A", "B", "C")
	counts(t, b, false, 7, 0)
	fates[0], fates[1] = 0, 0
	check(t, "Write", a.Write(0, "x"), api.OK)
	a.Off()
	a.On()
	has(t, a, "A", "b", "C")
	bytes := []byte("abc")
	check(t, "Write", b.Write(0, string(bytes)), api.OK)
	bytes[0] = '?'
	has(t, b, "abc", "B", "C")
}

// P4.1 to P4.4: no calls make a shelf panic, or tell anything but its model.
func FuzzCalls(f *testing.F) {
	f.Add("\x00\x01\x03\x04\x00\x00\x00\x01\x05\x06\x00\x00\x07\x85\x00")
	f.Add("\x09\x04\x00\x00\x01\x03\x04\x00\x00\x07\x01\x00\x00\x02\xff")
	f.Fuzz(drive)
}
