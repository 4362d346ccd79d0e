package stamp

import (
	"bytes"
	"crypto/sha256"
	"encoding/hex"
	"math/rand"
	"slices"
	"strings"
	"testing"

	"apiary/api"
	"apiary/sap"
)

// want is the digest as the library of the language has it.
func want(s string) api.Digest { return sha256.Sum256([]byte(s)) }

// text is n bytes of all kinds, the same ones for the same n.
func text(n int) string {
	b := make([]byte, n)
	rand.New(rand.NewSource(int64(n))).Read(b)
	return string(b)
}

// edges are lengths around those at which a block ends, or its room for the length does.
func edges() []int {
	list := []int{0, 1, 2, 31, 32, 1000, 4096, 100000}
	for _, block := range []int{64, 128, 192, 256, 512, 8192} {
		for d := -10; d <= 2; d++ {
			list = append(list, block+d)
		}
	}
	return list
}

// P2.1: digests that others have told.
func TestKnown(t *testing.T) {
	table := []struct{ s, want string }{
		{"", "e3b0c44298fc1c149afbf4c8996fb92427ae41e4649b934ca495991b7852b855"},
		{"a", "ca978112ca1bbdcafac231b39a23dc4da786eff8147c4e72b9807785afee48bb"},
		{"abc", "ba7816bf8f01cfea414140de5dae2223b00361a396177a9cb410ff61f20015ad"},
		{"abcdbcdecdefdefgefghfghighijhijkijkljklmklmnlmnomnopnopq", "248d6a61d20638b8e5c026930c3e6039a33ce45964ff2167f6ecedd419db06c1"},
		{"abcdefghbcdefghicdefghijdefghijkefghijklfghijklmghijklmnhijklmnoijklmnopjklmnopqklmnopqrlmnopqrsmnopqrstnopqrstu", "cf5b16a778af8380036ce59e7b0492370b249b11e8f07a51afac45037afee9d1"},
		{strings.Repeat("a", 1000000), "cdc76e5c9914fb9281a1c7e284d73e67f1809a48a497200e046d39ccc7112cd0"},
	}
	for _, c := range table {
		if got := Hex(Of(c.s)); got != c.want {
			t.Errorf("%d bytes: %s, not %s", len(c.s), got, c.want)
		}
	}
	if got := Of(); got != want("") {
		t.Errorf("no parts: %s", Hex(got))
	}
}

// P2.1: texts of each length up to some blocks, and of the edges; of each byte alone.
func TestLengths(t *testing.T) {
	for n := range 400 {
		for _, s := range []string{text(n), strings.Repeat("\x00", n), strings.Repeat("\x80", n), strings.Repeat("\xff", n)} {
			if got := Of(s); got != want(s) {
				t.Errorf("%d bytes: %s", n, Hex(got))
			}
		}
	}
	for _, n := range edges() {
		if got := Of(text(n)); got != want(text(n)) {
			t.Errorf("%d bytes: %s", n, Hex(got))
		}
	}
	for b := range 256 {
		s := string([]byte{byte(b)})
		if got := Of(s); got != want(s) {
			t.Errorf("the byte %x: %s", b, Hex(got))
		}
	}
}

// P2.1: parts are one text; where they are parted is lost.
func TestParts(t *testing.T) {
	table := [][]string{
		nil,
		{},
		{""},
		{"", "", ""},
		{"abc"},
		{"a", "bc"},
		{"ab", "c"},
		{"a", "b", "c"},
		{"", "a", "", "bc", ""},
		{text(55), ""},
		{text(55), "x"},
		{"", text(64), ""},
		{text(63), "x", text(64), text(1)},
		{text(64), text(64), text(64)},
		{text(1), text(200), text(7)},
		make([]string, 300),
	}
	for _, parts := range table {
		if got := Of(parts...); got != want(strings.Join(parts, "")) {
			t.Errorf("%d parts, %q: %s", len(parts), parts, Hex(got))
		}
	}
	if Of("a", "bc") != Of("ab", "c") || Of("a", "b") == Of("b", "a") {
		t.Error("the parts' order")
	}
}

// P2.1: the digest of a row keeps the texts apart.
func TestRow(t *testing.T) {
	table := [][]string{nil, {""}, {"", ""}, {"a"}, {"ab"}, {"a", "b"}, {"", "ab"}, {"ab", ""}, {"b", "a"}, {"\x01\x01a"}, {text(300), text(64)}}
	seen := map[api.Digest]int{}
	for i, parts := range table {
		got := Row(parts...)
		if got != want(sap.Row(parts...)) {
			t.Errorf("%q: %s", parts, Hex(got))
		}
		if k, ok := seen[got]; ok {
			t.Errorf("%q and %q have one digest", parts, table[k])
		}
		seen[got] = i
	}
	if Row("a") != want("\x01\x01\x01\x01a") || Row() != want("\x00") || Row("a", "") != want("\x01\x02\x01\x01a\x00") {
		t.Error("the bytes of a row")
	}
}

// P2.1: a digest's digits.
func TestHex(t *testing.T) {
	if got := Hex(api.Digest{}); got != strings.Repeat("0", 64) {
		t.Errorf("the zero digest: %q", got)
	}
	if got := Hex(api.Digest{0: 0x01, 1: 0x10, 2: 0x9a, 31: 0xf0}); got != "01109a"+strings.Repeat("0", 56)+"f0" {
		t.Errorf("%q", got)
	}
	for b := range 256 {
		d := api.Digest{}
		for i := range d {
			d[i] = byte(b + i)
		}
		if got := Hex(d); got != hex.EncodeToString(d[:]) {
			t.Errorf("%x: %q", d, got)
		}
	}
}

// P2.1: the lesser one is told at the first byte at which two part.
func TestLess(t *testing.T) {
	table := []struct {
		a, b api.Digest
		want bool
	}{
		{api.Digest{}, api.Digest{}, false},
		{api.Digest{1, 2}, api.Digest{1, 2}, false},
		{api.Digest{1, 2}, api.Digest{1, 3}, true},
		{api.Digest{1, 3}, api.Digest{1, 2}, false},
		{api.Digest{0, 255}, api.Digest{1}, true},
		{api.Digest{1}, api.Digest{0, 255}, false},
		{api.Digest{127}, api.Digest{128}, true},
		{api.Digest{128}, api.Digest{127}, false},
		{api.Digest{31: 0}, api.Digest{31: 1}, true},
		{api.Digest{31: 1}, api.Digest{31: 0}, false},
		{api.Digest{5: 9, 31: 0}, api.Digest{5: 8, 31: 1}, false},
	}
	for _, c := range table {
		if got := Less(c.a, c.b); got != c.want {
			t.Errorf("%s below %s: %v", Hex(c.a), Hex(c.b), got)
		}
	}
	r := rand.New(rand.NewSource(1))
	for range 5000 {
		var a, b api.Digest
		same := r.Intn(len(a) + 1)
		for i := range a {
			a[i] = byte(r.Intn(256))
			if b[i] = a[i]; i >= same {
				b[i] = byte(r.Intn(256))
			}
		}
		if got := Less(a, b); got != (bytes.Compare(a[:], b[:]) < 0) {
			t.Errorf("%s below %s: %v", Hex(a), Hex(b), got)
		}
	}
}

// P2.2: a press of no bytes, and one to which nothing but empty texts came.
func TestEmptyPress(t *testing.T) {
	p := New()
	if p == nil || p.Len() != 0 || p.Sum() != want("") {
		t.Fatal("a new press")
	}
	if p.Add() != p || p.Add("") != p || p.Add("", "") != p || p.Len() != 0 || p.Sum() != want("") {
		t.Error("nothing came")
	}
}

// P2.2: Add answers the press itself; sums and lengths of what came, as often as they are asked for.
func TestPress(t *testing.T) {
	p, all := New(), ""
	for _, n := range append(edges(), 3, 0, 55, 56, 1, 7) {
		if n > 5000 {
			continue
		}
		if p.Add(text(n), "", "x") != p {
			t.Fatal("Add answers another press")
		}
		all += text(n) + "x"
		for range 2 {
			if p.Len() != len(all) {
				t.Fatalf("%d bytes, not %d", p.Len(), len(all))
			}
			if got := p.Sum(); got != want(all) {
				t.Fatalf("%d bytes: %s", len(all), Hex(got))
			}
		}
	}
	if p.Add("d").Add("e").Sum() != want(all+"de") {
		t.Error("one call behind the other")
	}
}

// P2.2: a sum in between, at each length, changes nothing for what comes behind.
func TestSumBetween(t *testing.T) {
	s := text(300)
	p := New()
	for i := range len(s) {
		if got := p.Sum(); got != want(s[:i]) {
			t.Fatalf("%d bytes: %s", i, Hex(got))
		}
		p.Add(s[i : i+1])
	}
	if p.Sum() != want(s) || p.Len() != len(s) {
		t.Error("all bytes")
	}
}

// P2.2: presses don't know of one another.
func TestTwoPresses(t *testing.T) {
	p, q := New(), New()
	p.Add("a", text(70))
	q.Add("b")
	p.Add("c")
	q.Add(text(130))
	if p.Sum() != want("a"+text(70)+"c") || p.Len() != 72 {
		t.Error("the first one")
	}
	if q.Sum() != want("b"+text(130)) || q.Len() != 131 {
		t.Error("the second one")
	}
	if New().Sum() != want("") {
		t.Error("a third one isn't of no bytes")
	}
}

// P2.2: a nil press.
func TestNilPress(t *testing.T) {
	var p *Press
	if p.Add() != nil || p.Add("a", "b") != nil || p.Add("a").Add("b") != nil {
		t.Error("Add")
	}
	if p.Sum() != (api.Digest{}) || p.Len() != 0 {
		t.Error("Sum, Len")
	}
}

// parted cuts a text at places that hang on r, some of the parts empty.
func parted(r *rand.Rand, s string) []string {
	parts := []string{}
	for s != "" {
		n := min(len(s), r.Intn(1+r.Intn(150)))
		parts = append(parts, s[:n])
		s = s[n:]
	}
	return parts
}

// checkParted fails if a text's digest hangs on how its parts come.
func checkParted(t *testing.T, r *rand.Rand, parts []string) {
	t.Helper()
	s := strings.Join(parts, "")
	if got := Of(parts...); got != want(s) {
		t.Errorf("Of %d bytes in %d parts: %s", len(s), len(parts), Hex(got))
	}
	p := New()
	for len(parts) > 0 {
		n := r.Intn(len(parts) + 1)
		p.Add(parts[:n]...)
		parts = parts[n:]
		if r.Intn(3) == 0 {
			p.Sum()
		}
	}
	if got := p.Sum(); got != want(s) || p.Len() != len(s) {
		t.Errorf("a press of %d bytes, that says %d: %s", len(s), p.Len(), Hex(got))
	}
}

// P2.3: every way to part a text in two, around the blocks' ends, and many ways to part it in more.
func TestParted(t *testing.T) {
	for _, n := range []int{0, 1, 55, 56, 63, 64, 65, 119, 120, 127, 128, 129, 200} {
		s := text(n)
		for i := range n + 1 {
			if Of(s[:i], s[i:]) != want(s) || New().Add(s[:i]).Add(s[i:]).Sum() != want(s) {
				t.Errorf("%d bytes, parted at %d", n, i)
			}
		}
	}
	r := rand.New(rand.NewSource(3))
	for range 1500 {
		checkParted(t, r, parted(r, text(r.Intn(700))))
	}
}

// Rule 3: what is handed in stays as it is, its spare room too, and isn't kept.
func TestMemory(t *testing.T) {
	list := []string{"a", "b", "spare"}
	p := New().Add(list[:2]...)
	if Of(list[:2]...) != want("ab") || Row(list[:2]...) != want(sap.Row("a", "b")) {
		t.Error("a part of a list")
	}
	if !slices.Equal(list, []string{"a", "b", "spare"}) {
		t.Error(list)
	}
	list[0] = "z"
	if p.Sum() != want("ab") {
		t.Error("the list is kept")
	}
	d := p.Sum()
	d[0]++
	if p.Sum() != want("ab") {
		t.Error("the digest is the press's own")
	}
}

func FuzzParted(f *testing.F) {
	f.Add("", int64(0))
	f.Add("abc", int64(1))
	f.Add(text(120), int64(2))
	f.Fuzz(func(t *testing.T, s string, seed int64) {
		r := rand.New(rand.NewSource(seed))
		checkParted(t, r, parted(r, s))
	})
}
