package comb

import (
	"crypto/sha256"
	"math"
	"math/rand"
	"slices"
	"strings"
	"testing"

	"apiary/api"
	"apiary/sap"
)

// digest is a text's digest as the library of the language has it.
func digest(s string) api.Digest { return sha256.Sum256([]byte(s)) }

// text is n bytes of all kinds, the same ones for the same n.
func text(n int) string {
	b := make([]byte, n)
	rand.New(rand.NewSource(int64(n))).Read(b)
	return string(b)
}

// lengths are those of each chunk of a blob of so many bytes, counted off one after the other.
func lengths(size int) []int {
	list := []int{}
	for size > 64 {
		list = append(list, 64)
		size -= 64
	}
	if size > 0 {
		list = append(list, size)
	}
	return list
}

// pieces is a text cut into parts of these lengths.
func pieces(s string, sizes []int) []string {
	list := []string{}
	for _, n := range sizes {
		list = append(list, s[:n])
		s = s[n:]
	}
	return list
}

// manifest is a blob's, made the long way.
func manifest(blob string) api.Manifest {
	m := api.Manifest{Whole: digest(blob), Size: len(blob)}
	for _, chunk := range pieces(blob, lengths(len(blob))) {
		m.Parts = append(m.Parts, digest(chunk))
	}
	return m
}

// edges are lengths of blobs around those at which one chunk more begins, and the ends.
func edges() []int {
	return []int{0, 1, 2, 6, 63, 64, 65, 70, 127, 128, 129, 191, 192, 193, 447, 448, 449, 510, 511, 512}
}

// anyParts is n digests, no two the same.
func anyParts(n int) []api.Digest {
	list := make([]api.Digest, n)
	for i := range list {
		list[i] = digest("part" + text(i))
	}
	return list
}

// joined is digests' bytes one behind the other.
func joined(parts []api.Digest) string {
	s := ""
	for _, d := range parts {
		s += string(d[:])
	}
	return s
}

// noManifests are manifests that can't be, in each of the ways.
func noManifests() []api.Manifest {
	whole := digest("whole")
	list := []api.Manifest{}
	for _, size := range []int{-1, -2, -63, -64, -65, -512, math.MinInt, math.MinInt + 1, 513, 514, 575, 576, 577, 1024, 1 << 32, 1<<32 + 1, math.MaxInt - 62, math.MaxInt - 1, math.MaxInt} {
		for _, n := range []int{0, 1, 2, 7, 8, 9, 16} {
			list = append(list, api.Manifest{Whole: whole, Size: size, Parts: anyParts(n)})
		}
	}
	for _, size := range edges() {
		n := len(lengths(size))
		for _, other := range []int{0, 1, n - 1, n + 1, n + 2, 8, 9, 20} {
			if other >= 0 && other != n {
				list = append(list, api.Manifest{Whole: whole, Size: size, Parts: anyParts(other)})
			}
		}
	}
	return list
}

// checkSplit fails unless a text's chunks are those that the chapter has.
func checkSplit(t *testing.T, s string) {
	t.Helper()
	if got, want := Split(s), pieces(s, lengths(len(s))); !slices.Equal(got, want) {
		t.Errorf("%d bytes: %d chunks, %q", len(s), len(got), got)
	}
}

// P3.1: a text's chunks, of those that are too long for a blob, too.
func TestSplit(t *testing.T) {
	table := []struct{ size, count, last int }{
		{1, 1, 1}, {63, 1, 63}, {64, 1, 64}, {65, 2, 1}, {70, 2, 6}, {127, 2, 63}, {128, 2, 64}, {129, 3, 1},
		{511, 8, 63}, {512, 8, 64}, {513, 9, 1}, {1000, 16, 40}, {6400, 100, 64},
	}
	for _, c := range table {
		got := Split(text(c.size))
		if len(got) != c.count || len(got[len(got)-1]) != c.last {
			t.Errorf("%d bytes: %d chunks", c.size, len(got))
		}
		for i, chunk := range got[:len(got)-1] {
			if len(chunk) != 64 {
				t.Errorf("%d bytes: the chunk %d has %d", c.size, i, len(chunk))
			}
		}
	}
	if got := Split(""); len(got) != 0 {
		t.Errorf("no bytes: %q", got)
	}
	for n := range 1300 {
		checkSplit(t, text(n))
	}
	checkSplit(t, strings.Repeat("\x00", 200))
	checkSplit(t, strings.Repeat("ä", 33))
	checkSplit(t, text(1<<20+1))
}

// P3.1: a blob's manifest.
func TestMani(t *testing.T) {
	for n := range api.MaxBlob + 1 {
		for _, blob := range []string{text(n), strings.Repeat("b", n)} {
			m, e := Mani(blob)
			want := manifest(blob)
			if e != api.OK || m.Whole != want.Whole || m.Size != n || !slices.Equal(m.Parts, want.Parts) {
				t.Errorf("%d bytes: %v, %d", n, m, e)
			}
			if !Good(m) {
				t.Errorf("%d bytes: it can't be", n)
			}
		}
	}
	a := strings.Repeat("a", 64)
	m, e := Mani(a + "tail")
	if e != api.OK || m.Size != 68 || len(m.Parts) != 2 || m.Parts[0] != digest(a) || m.Parts[1] != digest("tail") || m.Whole != digest(a+"tail") {
		t.Errorf("%v, %d", m, e)
	}
}

// P3.1: what is too long for a blob has no manifest.
func TestManiWide(t *testing.T) {
	for _, n := range []int{513, 514, 575, 576, 577, 1024, 100000} {
		if m, e := Mani(text(n)); e != api.ErrWide || !Same(m, api.Manifest{}) {
			t.Errorf("%d bytes: %v, %d", n, m, e)
		}
	}
}

// P3.1: a manifest can be by its size and the number of its parts, whatever the digests.
func TestGood(t *testing.T) {
	for size := range api.MaxBlob + 1 {
		want := len(lengths(size))
		for n := range 12 {
			m := api.Manifest{Size: size, Parts: make([]api.Digest, n)}
			if Good(m) != (n == want) {
				t.Errorf("%d bytes in %d parts", size, n)
			}
			m = api.Manifest{Whole: digest("x"), Size: size, Parts: anyParts(n)}
			if Good(m) != (n == want) {
				t.Errorf("%d bytes in %d parts of any digests", size, n)
			}
		}
	}
	for _, m := range noManifests() {
		if Good(m) {
			t.Errorf("%d bytes in %d parts", m.Size, len(m.Parts))
		}
	}
	if !Good(api.Manifest{}) || !Good(api.Manifest{Parts: []api.Digest{}}) {
		t.Error("no parts, nil or empty")
	}
}

// P3.1: manifests are the same if all fields are, those that can't be, too.
func TestSame(t *testing.T) {
	base := func() api.Manifest { return manifest(text(200)) }
	if !Same(base(), base()) || !Same(api.Manifest{}, api.Manifest{}) {
		t.Error("the same")
	}
	others := []func(m *api.Manifest){
		func(m *api.Manifest) { m.Whole[0]++ },
		func(m *api.Manifest) { m.Whole[31] ^= 1 },
		func(m *api.Manifest) { m.Size++ },
		func(m *api.Manifest) { m.Size = -m.Size },
		func(m *api.Manifest) { m.Size = math.MinInt },
		func(m *api.Manifest) { m.Parts[0][0]++ },
		func(m *api.Manifest) { m.Parts[3][31] ^= 128 },
		func(m *api.Manifest) { m.Parts[1], m.Parts[2] = m.Parts[2], m.Parts[1] },
		func(m *api.Manifest) { m.Parts = m.Parts[:3] },
		func(m *api.Manifest) { m.Parts = m.Parts[1:] },
		func(m *api.Manifest) { m.Parts = append(m.Parts, api.Digest{}) },
		func(m *api.Manifest) { m.Parts = nil },
	}
	for i, change := range others {
		m := base()
		change(&m)
		if Same(base(), m) || Same(m, base()) {
			t.Errorf("the change %d isn't seen", i)
		}
		if !Same(m, m) {
			t.Errorf("the change %d: not the same as itself", i)
		}
	}
	for _, m := range noManifests() {
		copied := m
		copied.Parts = slices.Clone(m.Parts)
		if !Same(m, copied) || Same(m, base()) {
			t.Errorf("%d bytes in %d parts", m.Size, len(m.Parts))
		}
	}
	none, empty := api.Manifest{Whole: digest("x"), Size: 7}, api.Manifest{Whole: digest("x"), Size: 7, Parts: []api.Digest{}}
	if !Same(none, empty) || !Same(empty, none) {
		t.Error("parts nil or empty are one")
	}
}

// P3.2 and P3.4: each chunk fits at its place, and at no other one; no other text fits.
func TestFits(t *testing.T) {
	for _, size := range edges() {
		blob := text(size)
		m := manifest(blob)
		chunks := pieces(blob, lengths(size))
		for at := -3; at < len(chunks)+3; at++ {
			for i, chunk := range chunks {
				if Fits(m, at, chunk) != (at == i) {
					t.Errorf("%d bytes: the chunk %d at %d", size, i, at)
				}
			}
			for _, s := range []string{"", "other", text(64) + "x", blob + "x"} {
				if Fits(m, at, s) {
					t.Errorf("%d bytes: %q at %d", size, s, at)
				}
			}
		}
		for at, chunk := range chunks {
			for _, s := range otherTexts(chunk) {
				if Fits(m, at, s) {
					t.Errorf("%d bytes: another text at %d", size, at)
				}
			}
		}
	}
}

// otherTexts are texts that are nearly this one, which isn't empty: a byte turned, fewer bytes, more bytes.
func otherTexts(s string) []string {
	list := []string{"", s[1:], s[:len(s)-1], s + "\x00", "\x00" + s, s + s[len(s)-1:], s + s}
	for i := range len(s) {
		for _, mask := range []byte{1, 128} {
			list = append(list, s[:i]+string([]byte{s[i] ^ mask})+s[i+1:])
		}
	}
	return list
}

// P3.2: places that are the ends of their type, or come round to one that there is.
func TestFitsFarPlaces(t *testing.T) {
	blob := strings.Repeat("b", 512)
	m := manifest(blob)
	for at := range 8 {
		if !Fits(m, at, blob[:64]) {
			t.Errorf("the place %d", at)
		}
	}
	for _, at := range []int{-1, -8, 8, 9, 64, 512, math.MinInt, math.MinInt + 1, math.MaxInt, math.MaxInt - 1, 1 << 32, 1 << 58, 1<<58 + 1, -1 << 58, 1 << 62} {
		if Fits(m, at, blob[:64]) || Fits(m, at, "") {
			t.Errorf("the place %d", at)
		}
	}
	none := manifest("")
	for _, at := range []int{-1, 0, 1, math.MinInt, math.MaxInt} {
		if Fits(none, at, "") || Fits(none, at, "x") {
			t.Errorf("the place %d of no chunks", at)
		}
	}
}

// P3.2: the length counts, though the digest is that of the text.
func TestFitsLength(t *testing.T) {
	table := []struct {
		size, at, length int
		want             bool
	}{
		{70, 0, 64, true}, {70, 0, 63, false}, {70, 0, 65, false}, {70, 0, 6, false}, {70, 0, 70, false}, {70, 0, 0, false},
		{70, 1, 6, true}, {70, 1, 5, false}, {70, 1, 7, false}, {70, 1, 64, false}, {70, 1, 0, false},
		{64, 0, 64, true}, {64, 0, 0, false}, {64, 0, 63, false},
		{128, 1, 64, true}, {128, 1, 0, false}, {65, 1, 1, true}, {65, 1, 0, false}, {65, 1, 2, false}, {65, 1, 64, false},
		{1, 0, 1, true}, {1, 0, 0, false}, {1, 0, 64, false}, {512, 7, 64, true}, {511, 7, 63, true}, {511, 7, 64, false},
	}
	for _, c := range table {
		m := api.Manifest{Size: c.size, Parts: make([]api.Digest, len(lengths(c.size)))}
		m.Parts[c.at] = digest(text(c.length))
		if Fits(m, c.at, text(c.length)) != c.want {
			t.Errorf("%d bytes: at %d one of %d", c.size, c.at, c.length)
		}
	}
}

// P3.2: nothing fits a manifest that can't be, and nothing can be joined by it, whatever its digests say.
func TestNoManifest(t *testing.T) {
	for _, m := range noManifests() {
		for _, length := range []int{0, 1, 63, 64, 65} {
			s := text(length)
			parts := make([]string, len(m.Parts))
			for i := range m.Parts {
				m.Parts[i], parts[i] = digest(s), s
			}
			m.Whole = digest(strings.Join(parts, ""))
			for _, at := range []int{-1, 0, 1, len(m.Parts) - 1, len(m.Parts)} {
				if Fits(m, at, s) {
					t.Errorf("%d bytes in %d parts: at %d one of %d fits", m.Size, len(m.Parts), at, length)
				}
			}
			if got, e := Join(m, parts...); got != "" || e != api.ErrArg {
				t.Errorf("%d bytes in %d parts of %d: joined, %d", m.Size, len(m.Parts), length, e)
			}
		}
	}
}

// P3.2 and P3.4: chunks of a blob, joined, are the blob, and fit each at its place.
func TestJoin(t *testing.T) {
	for n := range api.MaxBlob + 1 {
		for _, blob := range []string{text(n), strings.Repeat("\x00", n)} {
			m, e := Mani(blob)
			if e != api.OK {
				t.Fatalf("%d bytes: %d", n, e)
			}
			chunks := Split(blob)
			for at, chunk := range chunks {
				if !Fits(m, at, chunk) {
					t.Errorf("%d bytes: the chunk %d doesn't fit", n, at)
				}
			}
			if got, e := Join(m, chunks...); got != blob || e != api.OK {
				t.Errorf("%d bytes: %q, %d", n, got, e)
			}
		}
	}
}

// P3.2: parts too few and too many, whatever they are.
func TestJoinCount(t *testing.T) {
	for _, size := range edges() {
		blob := text(size)
		m := manifest(blob)
		chunks := pieces(blob, lengths(size))
		lists := [][]string{
			append(slices.Clone(chunks), ""),
			append(slices.Clone(chunks), "x"),
			append([]string{""}, chunks...),
			make([]string, len(chunks)+1),
			make([]string, 100),
		}
		if len(chunks) > 0 {
			lists = append(lists, nil, chunks[1:], chunks[:len(chunks)-1])
		}
		if len(chunks) > 1 {
			lists = append(lists, []string{blob})
		}
		for i, parts := range lists {
			if got, e := Join(m, parts...); got != "" || e != api.ErrArg {
				t.Errorf("%d bytes, list %d of %d: %q, %d", size, i, len(parts), got, e)
			}
		}
	}
}

// P3.2: a part that doesn't fit at its place, at each of the places.
func TestJoinSum(t *testing.T) {
	for _, size := range edges() {
		blob := text(size)
		m := manifest(blob)
		for at, chunk := range pieces(blob, lengths(size)) {
			for _, s := range otherTexts(chunk) {
				parts := pieces(blob, lengths(size))
				parts[at] = s
				if got, e := Join(m, parts...); got != "" || e != api.ErrSum {
					t.Fatalf("%d bytes, another text at %d: %q, %d", size, at, got, e)
				}
			}
			other := m
			other.Parts = slices.Clone(m.Parts)
			other.Parts[at][at]++
			if got, e := Join(other, pieces(blob, lengths(size))...); got != "" || e != api.ErrSum {
				t.Errorf("%d bytes, another digest at %d: %q, %d", size, at, got, e)
			}
		}
	}
}

// P3.2: parts in another order, or parted at other places, though they come to the same text.
func TestJoinParted(t *testing.T) {
	blob := text(130)
	m := manifest(blob)
	for _, parts := range [][]string{
		{blob[64:128], blob[:64], blob[128:]},
		{blob[:63], blob[63:128], blob[128:]},
		{blob[:64], blob[64:127], blob[127:]},
		{blob, "", ""},
		{"", "", blob},
		{"", "", ""},
	} {
		if got, e := Join(m, parts...); got != "" || e != api.ErrSum {
			t.Errorf("%q: %q, %d", parts, got, e)
		}
	}
	same := m
	same.Parts = []api.Digest{digest(blob[:63]), digest(blob[63:128]), digest(blob[128:])}
	if got, e := Join(same, blob[:63], blob[63:128], blob[128:]); got != "" || e != api.ErrSum {
		t.Errorf("parts of other lengths: %q, %d", got, e)
	}
}

// P3.2: all parts fit, and the whole is another one.
func TestJoinWhole(t *testing.T) {
	for _, size := range edges() {
		blob := text(size)
		chunks := pieces(blob, lengths(size))
		for i := range 32 {
			m := manifest(blob)
			m.Whole[i] ^= 1 << (i % 8)
			if got, e := Join(m, chunks...); got != "" || e != api.ErrSum {
				t.Errorf("%d bytes, another byte %d of the whole: %q, %d", size, i, got, e)
			}
		}
	}
	// Of chunks that fit, the order counts for the whole.
	a, b := text(64), text(63)+"z"
	m := manifest(a + b)
	m.Parts[0], m.Parts[1] = m.Parts[1], m.Parts[0]
	if got, e := Join(m, b, a); got != "" || e != api.ErrSum {
		t.Errorf("turned round: %q, %d", got, e)
	}
}

// P3.3: a manifest's bytes, written out.
func TestEncode(t *testing.T) {
	e3 := digest("")
	table := []struct {
		blob, size, parts string
	}{
		{"", "\x01\x01\x00", "\x00"},
		{"a", "\x01\x02\x01\x01", "\x01\x20"},
		{text(64), "\x01\x02\x01\x40", "\x01\x20"},
		{text(65), "\x01\x02\x01\x41", "\x01\x40"},
		{text(255), "\x01\x02\x01\xff", "\x01\x80"},
		{text(256), "\x01\x03\x02\x01\x00", "\x01\x80"},
		{text(511), "\x01\x03\x02\x01\xff", "\x02\x01\x00"},
		{text(512), "\x01\x03\x02\x02\x00", "\x02\x01\x00"},
	}
	for _, c := range table {
		m := manifest(c.blob)
		want := "\x01\x03\x01\x20" + string(m.Whole[:]) + c.size + c.parts + joined(m.Parts)
		if got, e := Encode(m); got != want || e != api.OK {
			t.Errorf("%d bytes: %x, %d, not %x", len(c.blob), got, e, want)
		}
	}
	for _, m := range []api.Manifest{{Whole: e3}, {Whole: e3, Parts: []api.Digest{}}} {
		if got, e := Encode(m); got != "\x01\x03\x01\x20"+string(e3[:])+"\x01\x01\x00"+"\x00" || e != api.OK {
			t.Errorf("no parts: %x, %d", got, e)
		}
	}
	for _, m := range noManifests() {
		if got, e := Encode(m); got != "" || e != api.ErrArg {
			t.Errorf("%d bytes in %d parts: %x, %d", m.Size, len(m.Parts), got, e)
		}
	}
}

// checkBack fails unless a manifest is read as it was written.
func checkBack(t *testing.T, m api.Manifest) string {
	t.Helper()
	s, e := Encode(m)
	if e != api.OK {
		t.Fatalf("%d bytes: %d", m.Size, e)
	}
	back, e := Decode(s)
	if e != api.OK || back.Whole != m.Whole || back.Size != m.Size || !slices.Equal(back.Parts, m.Parts) {
		t.Errorf("%d bytes: %v, %d", m.Size, back, e)
	}
	return s
}

// P3.3 and P3.4: manifests are read as they were written, those of no blob, too; no two have one form.
func TestBack(t *testing.T) {
	seen := map[string]int{}
	for size := range api.MaxBlob + 1 {
		forms := []string{
			checkBack(t, manifest(text(size))),
			checkBack(t, api.Manifest{Whole: digest("any"), Size: size, Parts: anyParts(len(lengths(size)))}),
			checkBack(t, api.Manifest{Size: size, Parts: make([]api.Digest, len(lengths(size)))}),
		}
		for _, s := range forms {
			if other, ok := seen[s]; ok {
				t.Errorf("manifests of %d and of %d bytes have one form", other, size)
			}
			seen[s] = size
		}
	}
}

// noForms are bytes that are no manifest's: each would be one but for one thing.
func noForms() []string {
	whole, one := string(text(32)), string(text(31)+"1")
	m := manifest(text(70))
	good, parts := string(m.Whole[:]), joined(m.Parts)
	list := []string{
		"", "\x00", "\x01\x03", "\x81\x03", "\x08\x7f\xff\xff\xff\xff\xff\xff\xff",
		sap.Row(),
		sap.Row(good),
		sap.Row(good, sap.Num(70)),
		sap.Row(good, sap.Num(70), parts, ""),
		sap.Row(good, sap.Num(70), parts, parts),
		sap.Row(good, sap.Num(70), parts[:32], parts[32:]),
		sap.Row(good, parts, sap.Num(70)),
		sap.Row(sap.Num(70), good, parts),
		sap.Row("", sap.Num(70), parts),
		sap.Row(good[:31], sap.Num(70), parts),
		sap.Row(good+"x", sap.Num(70), parts),
		sap.Row(good+good, sap.Num(70), parts),
		sap.Row(good, "", parts),
		sap.Row(good, "\x46", parts),
		sap.Row(good, "70", parts),
		sap.Row(good, "\x02\x00\x46", parts),
		sap.Row(good, "\x03\x00\x00\x46", parts),
		sap.Row(good, "\x08\x00\x00\x00\x00\x00\x00\x00\x46", parts),
		sap.Row(good, "\x09\x00\x00\x00\x00\x00\x00\x00\x00\x46", parts),
		sap.Row(good, "\x81\x46", parts),
		sap.Row(good, "\x02\x46", parts),
		sap.Row(good, sap.Num(70)+"\x00", parts),
		sap.Row(good, sap.Num(70)+sap.Num(70), parts),
		sap.Row(good, sap.Text("\x46"), parts+"x"),
		sap.Row(good, sap.Num(70), parts[:63]),
		sap.Row(good, sap.Num(70), parts+"x"),
		sap.Row(good, sap.Num(70), parts[:32]),
		sap.Row(good, sap.Num(70), parts+one),
		sap.Row(good, sap.Num(70), ""),
		sap.Row(good, sap.Num(0), whole),
		sap.Row(good, sap.Num(0), "x"),
		sap.Row(good, "\x01\x00", ""),
		sap.Row(good, sap.Num(-1), ""),
		sap.Row(good, sap.Num(1), ""),
		sap.Row(good, sap.Num(64), parts),
		sap.Row(good, sap.Num(65), parts[:32]),
		sap.Row(good, sap.Num(129), parts),
		sap.Row(good) + sap.Num(70) + parts,
		good + sap.Num(70) + parts,
		sap.Text(good) + sap.Text(sap.Num(70)) + sap.Text(parts),
		sap.Text(sap.Row(good, sap.Num(70), parts)),
		sap.Row(good, sap.Num(70), parts) + sap.Row(good, sap.Num(70), parts),
		"\x02\x00\x03" + sap.Row(good, sap.Num(70), parts)[2:],
		"\x01\x03\x02\x00\x20" + sap.Row(good, sap.Num(70), parts)[4:],
		"\x01\x03\x01\x20" + good + "\x02\x00\x02" + sap.Num(70) + sap.Text(parts),
		"\x01\x03\x01\x20" + good + sap.Text(sap.Num(70)) + "\x02\x00\x40" + parts,
		"\x01\x03\x01\x20" + good + sap.Text(sap.Num(70)) + "\x08\x7f\xff\xff\xff\xff\xff\xff\xff" + parts,
	}
	for _, m := range noManifests() {
		list = append(list, sap.Row(string(m.Whole[:]), sap.Num(m.Size), joined(m.Parts)))
	}
	return list
}

// checkNone fails unless bytes are no manifest.
func checkNone(t *testing.T, s string) {
	t.Helper()
	m, e := Decode(s)
	if e != api.ErrForm || m.Whole != (api.Digest{}) || m.Size != 0 || len(m.Parts) != 0 {
		t.Errorf("%d bytes, %x: %v, %d", len(s), s, m, e)
	}
}

// P3.3: bytes that are no manifest.
func TestDecodeNone(t *testing.T) {
	for _, s := range noForms() {
		checkNone(t, s)
	}
	for b := range 256 {
		checkNone(t, string([]byte{byte(b)}))
		for c := range 256 {
			checkNone(t, string([]byte{byte(b), byte(c)}))
		}
	}
	checkNone(t, text(1000))
	checkNone(t, strings.Repeat("\x00", 1000))
	checkNone(t, sap.Row(text(32), sap.Num(512), text(1<<20)))
	checkNone(t, sap.Row(make([]string, 1000)...))
}

// P3.3: bytes that are cut short at each place, or have one byte more.
func TestDecodeCut(t *testing.T) {
	for _, size := range edges() {
		s := checkBack(t, manifest(text(size)))
		for n := range len(s) {
			checkNone(t, s[:n])
		}
		for b := range 256 {
			checkNone(t, s+string([]byte{byte(b)}))
			checkNone(t, string([]byte{byte(b)})+s)
		}
		checkNone(t, s+s)
		checkNone(t, s[1:])
	}
}

// checkOneForm fails unless bytes are no manifest, or just those of the manifest that is read.
func checkOneForm(t *testing.T, s string) {
	t.Helper()
	m, e := Decode(s)
	if e != api.OK {
		checkNone(t, s)
		return
	}
	if !Good(m) {
		t.Errorf("%x: %v can't be", s, m)
	}
	if back, e := Encode(m); back != s || e != api.OK {
		t.Errorf("%x is read, and written as %x, %d", s, back, e)
	}
}

// P3.3 and P3.4: one byte turned: another manifest, if it is a digest's or a size's that has as many chunks, else none.
func TestDecodeTurned(t *testing.T) {
	for _, size := range []int{0, 1, 63, 64, 65, 70, 256, 511, 512} {
		m := manifest(text(size))
		s := checkBack(t, m)
		front := 4 + 32
		number := sap.Text(sap.Num(size))
		parts := len(s) - 32*len(m.Parts)
		for i := range len(s) {
			for mask := 1; mask < 256; mask++ {
				turned := s[:i] + string([]byte{s[i] ^ byte(mask)}) + s[i+1:]
				checkOneForm(t, turned)
				got, e := Decode(turned)
				if e == api.OK && Same(got, m) {
					t.Fatalf("%d bytes: the byte %d turned isn't seen", size, i)
				}
				inDigest := i >= 4 && i < front || i >= parts
				inNumber := i >= front+3 && i < front+len(number)
				if inDigest && e != api.OK || !inDigest && !inNumber && e != api.ErrForm {
					t.Fatalf("%d bytes: the byte %d turned: %d", size, i, e)
				}
			}
		}
	}
}

// P3.4: what can be read has one form, among bytes made at random out of a manifest's pieces.
func TestOneForm(t *testing.T) {
	r := rand.New(rand.NewSource(3))
	read := 0
	for range 20000 {
		n := r.Intn(10)
		whole := text(32 + r.Intn(60)/59*(r.Intn(3)-1))
		number := sap.Num(64*n - r.Intn(66))
		if r.Intn(8) == 0 {
			number = text(r.Intn(4))
		}
		s := sap.Row(whole, number, text(32*n))
		if r.Intn(4) == 0 {
			i := r.Intn(len(s))
			s = s[:i] + string([]byte{byte(r.Intn(256))}) + s[i+1:]
		}
		checkOneForm(t, s)
		if _, e := Decode(s); e == api.OK {
			read++
		}
	}
	if read < 2000 || read > 19000 {
		t.Errorf("%d of them are read: the test tells little", read)
	}
}

// Rule 3: what is handed in stays as it is, its spare room too, and isn't kept; no two answers share memory.
func TestMemory(t *testing.T) {
	blob := text(130)
	m := manifest(blob)
	m.Parts = append(slices.Clone(m.Parts), digest("spare"), digest("room"))
	all := slices.Clone(m.Parts)
	m.Parts = m.Parts[:3]
	list := []string{blob[:64], blob[64:128], blob[128:], "spare"}
	if got, e := Join(m, list[:3]...); got != blob || e != api.OK {
		t.Errorf("%q, %d", got, e)
	}
	s, _ := Encode(m)
	if !Good(m) || !Same(m, m) || !Fits(m, 2, blob[128:]) {
		t.Error("a manifest with spare room")
	}
	if !slices.Equal(m.Parts[:5], all) || !slices.Equal(list, []string{blob[:64], blob[64:128], blob[128:], "spare"}) {
		t.Error("what was handed in is another one")
	}
	a, _ := Decode(s)
	b, _ := Decode(s)
	for i := range a.Parts {
		a.Parts[i] = api.Digest{}
	}
	_ = append(a.Parts, api.Digest{})
	if !Same(b, m) {
		t.Error("two that were read share memory")
	}
	c, _ := Mani(blob)
	d, _ := Mani(blob)
	c.Parts[0] = api.Digest{}
	x, y := Split(blob), Split(blob)
	x[0] = ""
	if !Same(d, m) || y[0] != blob[:64] {
		t.Error("two that were made share memory")
	}
}

// P3.3 and P3.4: no bytes make a call panic, and those that are read would have been written so.
func FuzzDecode(f *testing.F) {
	for _, size := range edges() {
		s, _ := Encode(manifest(text(size)))
		f.Add(s)
	}
	for _, s := range noForms() {
		f.Add(s)
	}
	f.Fuzz(checkOneForm)
}

// P3.1, P3.2 and P3.4: a manifest that may be any, and two parts.
func FuzzJoin(f *testing.F) {
	f.Add(text(130), 130, 0, 64)
	f.Add("", 0, 0, 0)
	f.Add(text(513), 513, -1, 1)
	f.Add(text(70), math.MaxInt, math.MinInt, 64)
	f.Fuzz(func(t *testing.T, s string, size, at, cut int) {
		checkSplit(t, s)
		m, e := Mani(s)
		if (e == api.ErrWide) != (len(s) > api.MaxBlob) || e == api.OK && !Good(m) {
			t.Errorf("%d bytes: %d", len(s), e)
		}
		if e == api.OK {
			if got, e := Join(m, Split(s)...); got != s || e != api.OK {
				t.Errorf("%d bytes: joined, %d", len(s), e)
			}
		}
		cut = min(max(cut, 0), len(s))
		raw := api.Manifest{Whole: digest(s), Size: size, Parts: []api.Digest{digest(s[:cut]), digest(s[cut:])}}
		if Fits(raw, at, s[:cut]) && (size <= 64 || size > 128 || at < 0 || at > 1) {
			t.Errorf("%d bytes: at %d one of %d fits", size, at, cut)
		}
		got, e := Join(raw, s[:cut], s[cut:])
		if want := size == len(s) && cut == 64 && size > 64 && size <= 128; want != (e == api.OK) || want != (got != "") {
			t.Errorf("%d bytes in parts of %d and %d: %q, %d", size, cut, len(s)-cut, got, e)
		}
	})
}
