package sap

import (
	"encoding/hex"
	"math"
	"math/rand"
	"slices"
	"strconv"
	"strings"
	"testing"
)

// numbers are those of which the form may change, and their neighbours, on both sides of 0.
func numbers() []int {
	list := []int{0, 1, -1, 2, -2, math.MaxInt, math.MinInt, math.MaxInt - 1, math.MinInt + 1}
	for shift := 1; shift < 63; shift++ {
		for d := -2; d <= 2; d++ {
			n := 1<<shift + d
			list = append(list, n, -n)
		}
	}
	r := rand.New(rand.NewSource(1))
	for range 2000 {
		list = append(list, int(r.Uint64())>>r.Intn(64))
	}
	return list
}

func texts() []string {
	all := make([]byte, 256)
	for i := range all {
		all[i] = byte(i)
	}
	list := []string{"", "a", "\x00", "\x80", "\xff\xfe", "äß", "one two", string(all)}
	for _, n := range []int{254, 255, 256, 257, 65535, 65536} {
		list = append(list, strings.Repeat("x", n))
	}
	return list
}

func rows() [][]string {
	return [][]string{
		nil,
		{""},
		{"", ""},
		{"a", ""},
		{"", "a"},
		{"a"},
		{"ab"},
		{"a", "b"},
		{"\x00"},
		{"\x01\x01a"},
		texts(),
		make([]string, 255),
		make([]string, 256),
		make([]string, 300),
	}
}

// tails stand behind things that are read; none of them may be taken for a part of one.
func tails() []string { return []string{"", "z", "\x00", "\x80", "\x01\x01", "\xff\xff"} }

// numBytes is the chapter's form of a number, made the long way, by digits of base 16.
func numBytes(n int) string {
	sign := 0
	if n < 0 {
		sign, n = 128, -1-n
	}
	digits := strconv.FormatInt(int64(n), 16)
	if n == 0 {
		digits = ""
	}
	if len(digits)%2 == 1 {
		digits = "0" + digits
	}
	tail, err := hex.DecodeString(digits)
	if err != nil {
		panic(err)
	}
	return string([]byte{byte(sign + len(tail))}) + string(tail)
}

// P1.1: how a number is written.
func TestNum(t *testing.T) {
	table := []struct {
		n    int
		want string
	}{
		{0, "\x00"},
		{1, "\x01\x01"},
		{127, "\x01\x7f"},
		{128, "\x01\x80"},
		{255, "\x01\xff"},
		{256, "\x02\x01\x00"},
		{300, "\x02\x01\x2c"},
		{65535, "\x02\xff\xff"},
		{65536, "\x03\x01\x00\x00"},
		{1 << 56, "\x08\x01\x00\x00\x00\x00\x00\x00\x00"},
		{1<<56 - 1, "\x07\xff\xff\xff\xff\xff\xff\xff"},
		{math.MaxInt, "\x08\x7f\xff\xff\xff\xff\xff\xff\xff"},
		{-1, "\x80"},
		{-2, "\x81\x01"},
		{-256, "\x81\xff"},
		{-257, "\x82\x01\x00"},
		{math.MinInt, "\x88\x7f\xff\xff\xff\xff\xff\xff\xff"},
		{math.MinInt + 1, "\x88\x7f\xff\xff\xff\xff\xff\xff\xfe"},
	}
	for _, c := range table {
		if got := Num(c.n); got != c.want {
			t.Errorf("Num(%d) is %x, not %x", c.n, got, c.want)
		}
	}
	for _, n := range numbers() {
		if got, want := Num(n), numBytes(n); got != want {
			t.Errorf("Num(%d) is %x, not %x", n, got, want)
		}
	}
}

// P1.1: how a text is written.
func TestText(t *testing.T) {
	table := []struct{ s, want string }{
		{"", "\x00"},
		{"a", "\x01\x01a"},
		{"\x00", "\x01\x01\x00"},
		{"\xff\x80", "\x01\x02\xff\x80"},
		{"ä", "\x01\x02\xc3\xa4"},
	}
	for _, c := range table {
		if got := Text(c.s); got != c.want {
			t.Errorf("Text(%q) is %x, not %x", c.s, got, c.want)
		}
	}
	for _, s := range texts() {
		if got, want := Text(s), numBytes(len(s))+s; got != want {
			t.Errorf("the text of %d bytes has %d", len(s), len(got))
		}
	}
}

// P1.1: how a row is written.
func TestRow(t *testing.T) {
	table := []struct {
		parts []string
		want  string
	}{
		{nil, "\x00"},
		{[]string{}, "\x00"},
		{[]string{""}, "\x01\x01\x00"},
		{[]string{"", ""}, "\x01\x02\x00\x00"},
		{[]string{"a", ""}, "\x01\x02\x01\x01a\x00"},
		{[]string{"", "a"}, "\x01\x02\x00\x01\x01a"},
		{[]string{"ab", "", "c"}, "\x01\x03\x01\x02ab\x00\x01\x01c"},
		{make([]string, 256), "\x02\x01\x00" + strings.Repeat("\x00", 256)},
	}
	for _, c := range table {
		if got := Row(c.parts...); got != c.want {
			t.Errorf("Row(%q) is %x, not %x", c.parts, got, c.want)
		}
	}
	if got := Row(); got != "\x00" {
		t.Errorf("Row() is %x", got)
	}
	for _, parts := range rows() {
		want := numBytes(len(parts))
		for _, p := range parts {
			want += numBytes(len(p)) + p
		}
		if Row(parts...) != want {
			t.Errorf("a row of %d texts", len(parts))
		}
	}
}

// noNumbers are bytes that begin with no number.
func noNumbers() []string {
	return []string{
		"",
		// They end too early.
		"\x01", "\x02\x01", "\x81", "\x82\x01", "\x08\x01\x02\x03\x04\x05\x06\x07", "\x88\x01\x02\x03\x04\x05\x06\x07",
		// The first one is 0.
		"\x01\x00", "\x02\x00\x01", "\x02\x00\x00", "\x81\x00", "\x82\x00\x01", "\x08\x00\x01\x02\x03\x04\x05\x06\x07",
		// The count is above 8.
		"\x09\x01\x02\x03\x04\x05\x06\x07\x08\x09", "\x89\x01\x02\x03\x04\x05\x06\x07\x08\x09",
		"\x10\x01\x02\x03\x04\x05\x06\x07\x08\x09\x0a\x0b\x0c\x0d\x0e\x0f\x10",
		"\x7f" + strings.Repeat("\x01", 200), "\xff" + strings.Repeat("\x01", 200), "\x7f", "\xff",
		// The number has more than 64 bits with its sign.
		"\x08\x80\x00\x00\x00\x00\x00\x00\x00", "\x88\x80\x00\x00\x00\x00\x00\x00\x00",
		"\x08\xff\xff\xff\xff\xff\xff\xff\xff", "\x88\xff\xff\xff\xff\xff\xff\xff\xff",
	}
}

// P1.2: bytes that begin with no number.
func TestReadNumNone(t *testing.T) {
	for _, s := range noNumbers() {
		if n, rest, ok := ReadNum(s); n != 0 || rest != "" || ok {
			t.Errorf("ReadNum(%x): %d, %x, %v", s, n, rest, ok)
		}
	}
	for b := 9; b < 256; b++ {
		if b >= 128 && b <= 136 {
			continue
		}
		s := string([]byte{byte(b)}) + strings.Repeat("\x01", 300)
		if n, rest, ok := ReadNum(s); n != 0 || rest != "" || ok {
			t.Errorf("the first byte %x: %d, %v", b, n, ok)
		}
	}
	for _, n := range numbers() {
		s := Num(n)
		for i := range len(s) {
			if k, rest, ok := ReadNum(s[:i]); k != 0 || rest != "" || ok {
				t.Errorf("ReadNum(%x) of %d: %d, %v", s[:i], n, k, ok)
			}
		}
	}
}

// P1.2 and P1.3: numbers are read as they were written.
func TestReadNum(t *testing.T) {
	for _, n := range numbers() {
		for _, tail := range tails() {
			if k, rest, ok := ReadNum(Num(n) + tail); k != n || rest != tail || !ok {
				t.Errorf("%d and %x: %d, %x, %v", n, tail, k, rest, ok)
			}
		}
	}
}

// P1.2 and P1.3: texts are read as they were written, if they aren't too long.
func TestReadText(t *testing.T) {
	for _, s := range texts() {
		for _, tail := range tails() {
			for _, most := range []int{len(s), len(s) + 1, math.MaxInt} {
				if x, rest, ok := ReadText(Text(s)+tail, most); x != s || rest != tail || !ok {
					t.Errorf("%d bytes and %x, at most %d: %d bytes, %x, %v", len(s), tail, most, len(x), rest, ok)
				}
			}
			for _, most := range []int{len(s) - 1, -1, -len(s), math.MinInt} {
				if most == len(s) {
					continue
				}
				if x, rest, ok := ReadText(Text(s)+tail, most); x != "" || rest != "" || ok {
					t.Errorf("%d bytes and %x, at most %d: %d bytes, %x, %v", len(s), tail, most, len(x), rest, ok)
				}
			}
		}
	}
	if x, rest, ok := ReadText("\x00abc", 0); x != "" || rest != "abc" || !ok {
		t.Errorf("the empty text, at most 0: %q, %q, %v", x, rest, ok)
	}
}

// P1.2: bytes that begin with no text.
func TestReadTextNone(t *testing.T) {
	list := append(noNumbers(),
		"\x80", "\x80abc", "\x81\x01abc", "\x88\x7f\xff\xff\xff\xff\xff\xff\xffabc",
		"\x01\x01", "\x01\x02a", "\x02\x01\x00abc",
		"\x08\x7f\xff\xff\xff\xff\xff\xff\xffabc", "\x08\x7f\xff\xff\xff\xff\xff\xff\xff",
	)
	for _, s := range list {
		for _, most := range []int{0, 1, 3, 300, math.MaxInt, -1, math.MinInt} {
			if x, rest, ok := ReadText(s, most); x != "" || rest != "" || ok {
				t.Errorf("ReadText(%x, %d): %q, %q, %v", s, most, x, rest, ok)
			}
		}
	}
	for _, s := range texts() {
		s = Text(s)
		for _, i := range []int{0, 1, len(s) / 2, len(s) - 1} {
			if i >= len(s) {
				continue
			}
			if x, rest, ok := ReadText(s[:i], math.MaxInt); x != "" || rest != "" || ok {
				t.Errorf("%d of %d bytes: %q, %q, %v", i, len(s), x, rest, ok)
			}
		}
	}
}

// P1.2 and P1.3: rows are read as they were written, if they haven't too many texts, however long each is.
func TestReadRow(t *testing.T) {
	for _, parts := range rows() {
		s := Row(parts...)
		for _, tail := range tails() {
			for _, most := range []int{len(parts), len(parts) + 1, math.MaxInt} {
				if l, rest, ok := ReadRow(s+tail, most); !slices.Equal(l, parts) || rest != tail || !ok {
					t.Errorf("%d texts and %x, at most %d: %d texts, %x, %v", len(parts), tail, most, len(l), rest, ok)
				}
			}
			for _, most := range []int{len(parts) - 1, -1, -1 - len(parts), math.MinInt} {
				if l, rest, ok := ReadRow(s+tail, most); len(l) != 0 || rest != "" || ok {
					t.Errorf("%d texts and %x, at most %d: %d texts, %x, %v", len(parts), tail, most, len(l), rest, ok)
				}
			}
		}
	}
	if l, rest, ok := ReadRow("\x00abc", 0); len(l) != 0 || rest != "abc" || !ok {
		t.Errorf("the row without texts, at most 0: %q, %q, %v", l, rest, ok)
	}
}

// P1.2: bytes that begin with no row.
func TestReadRowNone(t *testing.T) {
	list := append(noNumbers(),
		"\x80", "\x80\x00", "\x81\x01\x00\x00", "\x88\x7f\xff\xff\xff\xff\xff\xff\xff\x00",
		"\x01\x01", "\x01\x02\x00", "\x01\x02\x01\x01a", "\x01\x02\x01\x01a\x01\x02b",
		"\x01\x01\x80", "\x01\x01\x81\x01aa", "\x01\x02\x00\x80", "\x01\x01\x01\x00", "\x01\x01\x09123456789", "\x01\x02\x00\x02\x00\x01a",
		"\x01\x01\x08\x7f\xff\xff\xff\xff\xff\xff\xffabc",
		"\x08\x7f\xff\xff\xff\xff\xff\xff\xff\x00\x00\x00", "\x05\x01\x00\x00\x00\x00\x00\x00\x00",
	)
	for _, s := range list {
		for _, most := range []int{0, 1, 3, 300, math.MaxInt, -1, math.MinInt} {
			if l, rest, ok := ReadRow(s, most); len(l) != 0 || rest != "" || ok {
				t.Errorf("ReadRow(%x, %d): %q, %q, %v", s, most, l, rest, ok)
			}
		}
	}
	for _, parts := range rows() {
		s := Row(parts...)
		for _, i := range []int{0, 1, len(s) / 2, len(s) - 1} {
			if i >= len(s) {
				continue
			}
			if l, rest, ok := ReadRow(s[:i], math.MaxInt); len(l) != 0 || rest != "" || ok {
				t.Errorf("%d of %d bytes: %q, %q, %v", i, len(s), l, rest, ok)
			}
		}
	}
}

// checkOneForm fails if bytes are read as a thing that would have been written otherwise, or if what is read hangs on what follows.
func checkOneForm(t *testing.T, s string, most int) {
	t.Helper()
	if n, rest, ok := ReadNum(s); ok && Num(n)+rest != s {
		t.Errorf("%x is read as %d and %x", s, n, rest)
	} else if !ok && (n != 0 || rest != "") {
		t.Errorf("%x is no number, but %d and %x", s, n, rest)
	}
	if x, rest, ok := ReadText(s, most); ok && (Text(x)+rest != s || len(x) > most) {
		t.Errorf("%x, at most %d, is read as %x and %x", s, most, x, rest)
	} else if !ok && (x != "" || rest != "") {
		t.Errorf("%x is no text, but %x and %x", s, x, rest)
	}
	if l, rest, ok := ReadRow(s, most); ok && (Row(l...)+rest != s || len(l) > most) {
		t.Errorf("%x, at most %d, is read as %x and %x", s, most, l, rest)
	} else if !ok && (len(l) != 0 || rest != "") {
		t.Errorf("%x is no row, but %x and %x", s, l, rest)
	}
}

// P1.3: one form, of all bytes of at most 2, and of longer ones that look like things.
func TestOneForm(t *testing.T) {
	checkOneForm(t, "", 0)
	for a := range 256 {
		checkOneForm(t, string([]byte{byte(a)}), 2)
		for b := range 256 {
			checkOneForm(t, string([]byte{byte(a), byte(b)}), 2)
		}
	}
	marks := []byte{0, 1, 2, 3, 8, 9, 0x7f, 0x80, 0x81, 0x88, 0xff}
	r := rand.New(rand.NewSource(2))
	for range 200000 {
		s := make([]byte, r.Intn(14))
		for i := range s {
			s[i] = marks[r.Intn(len(marks))]
		}
		checkOneForm(t, string(s), r.Intn(6)-1)
	}
}

// checkApart fails if one of the forms begins with another one.
func checkApart(t *testing.T, forms []string) {
	t.Helper()
	slices.Sort(forms)
	forms = slices.Compact(forms)
	// If any form begins with another one, then, sorted, the one right behind that does.
	for i := 1; i < len(forms); i++ {
		if strings.HasPrefix(forms[i], forms[i-1]) {
			t.Errorf("%x begins with %x", forms[i], forms[i-1])
		}
	}
}

// P1.3: none begins with another one of its kind, and no two things have one form.
func TestApart(t *testing.T) {
	nums := map[string]int{}
	for _, n := range append(numbers(), spread(-70000, 70000)...) {
		s := Num(n)
		if k, ok := nums[s]; ok && k != n {
			t.Errorf("%d and %d are both %x", n, k, s)
		}
		nums[s] = n
	}
	forms := []string{}
	for s := range nums {
		forms = append(forms, s)
	}
	checkApart(t, forms)
	forms = nil
	for _, s := range texts() {
		forms = append(forms, Text(s))
	}
	checkApart(t, forms)
	forms = nil
	for _, parts := range rows() {
		forms = append(forms, Row(parts...))
	}
	if n := len(forms); len(slices.Compact(slices.Sorted(slices.Values(forms)))) != n {
		t.Error("two rows have one form")
	}
	checkApart(t, forms)
}

func spread(from, to int) []int {
	list := []int{}
	for n := from; n <= to; n++ {
		list = append(list, n)
	}
	return list
}

// Several things, one behind the other, are read one behind the other.
func TestInTurn(t *testing.T) {
	s := Num(-300) + Text("go") + Row("a", "", "b") + Num(0) + Row() + Text("")
	n, s, ok1 := ReadNum(s)
	x, s, ok2 := ReadText(s, 2)
	l, s, ok3 := ReadRow(s, 3)
	zero, s, ok4 := ReadNum(s)
	none, s, ok5 := ReadRow(s, 0)
	empty, s, ok6 := ReadText(s, 0)
	if !ok1 || !ok2 || !ok3 || !ok4 || !ok5 || !ok6 || s != "" {
		t.Error(ok1, ok2, ok3, ok4, ok5, ok6, s)
	}
	if n != -300 || x != "go" || !slices.Equal(l, []string{"a", "", "b"}) || zero != 0 || len(none) != 0 || empty != "" {
		t.Error(n, x, l, zero, none, empty)
	}
}

// Rule 3: what is handed in stays as it is, its spare room too, and no two answers share memory.
func TestMemory(t *testing.T) {
	list := []string{"a", "b", "spare", "room"}
	if s := Row(list[:2]...); s != "\x01\x02\x01\x01a\x01\x01b" {
		t.Errorf("%x", s)
	}
	if !slices.Equal(list, []string{"a", "b", "spare", "room"}) {
		t.Error(list)
	}
	s := Row("a", "b", "c")
	one, _, _ := ReadRow(s, 3)
	two, _, _ := ReadRow(s, 3)
	one[0] = "z"
	one = append(one[:1], "y", "x", "w")
	if len(one) != 4 || !slices.Equal(two, []string{"a", "b", "c"}) {
		t.Error(one, two)
	}
}

// P1: every call ends and none panics; what bytes are read would have been written so.
func FuzzRead(f *testing.F) {
	for _, s := range noNumbers() {
		f.Add(s, 3)
	}
	f.Add(Row("a", "", "bc")+"tail", 3)
	f.Add(Text("abc"), math.MaxInt)
	f.Add(Num(math.MinInt), math.MinInt)
	f.Add("\x08\x7f\xff\xff\xff\xff\xff\xff\xff\x00\x00", math.MaxInt)
	f.Fuzz(checkOneForm)
}
