package hive

import (
	"bytes"
	"crypto/sha256"
	"math"
	"math/rand"
	"slices"
	"strings"
	"testing"

	"apiary/api"
	"apiary/shelf"
)

// digest is a text's digest as the library of the language has it.
func digest(s string) api.Digest { return sha256.Sum256([]byte(s)) }

// number is the bytes of a number from 0 to 65535.
func number(n int) string {
	switch {
	case n == 0:
		return "\x00"
	case n < 256:
		return string([]byte{1, byte(n)})
	}
	return string([]byte{2, byte(n >> 8), byte(n)})
}

// row is the bytes of a row of texts, made the long way.
func row(parts ...string) string {
	s := number(len(parts))
	for _, p := range parts {
		s += number(len(p)) + p
	}
	return s
}

// checked is bytes with their digest ahead.
func checked(s string) string {
	d := digest(s)
	return string(d[:]) + s
}

// blobText and recordText are what an entry's slot has.
func blobText(blob string) string { return checked(row("b", blob)) }

func recordText(r api.Record) string {
	return checked(row("r", string(r.Key[:]), number(int(r.Code)), string(r.Out[:])))
}

// out is a record whose action comes to a blob; failed one that has a code.
func out(key, blob string) api.Record { return api.Record{Key: digest(key), Out: digest(blob)} }

func failed(key string, code api.Errno) api.Record { return api.Record{Key: digest(key), Code: code} }

// check fails unless a call answers this error.
func check(t *testing.T, what string, got, want api.Errno) {
	t.Helper()
	if got != want {
		t.Errorf("%s: %d, not %d", what, got, want)
	}
}

// laid is a shelf whose slots surely have these texts.
func laid(t *testing.T, texts ...string) *shelf.Shelf {
	t.Helper()
	s := shelf.New(len(texts))
	for at, text := range texts {
		check(t, "Write", s.Write(at, text), api.OK)
	}
	check(t, "Sync", s.Sync(), api.OK)
	return s
}

// opened is a shelf's store.
func opened(t *testing.T, s *shelf.Shelf) *Hive {
	t.Helper()
	h, e := Open(s)
	if e != api.OK || h == nil {
		t.Fatalf("Open: %d", e)
	}
	return h
}

// texts is what the slots have.
func texts(t *testing.T, s *shelf.Shelf) []string {
	t.Helper()
	list := make([]string, s.Len())
	for at := range list {
		text, e := s.Read(at)
		check(t, "Read", e, api.OK)
		list[at] = text
	}
	return list
}

// lies fails unless the slots have these texts.
func lies(t *testing.T, s *shelf.Shelf, want ...string) {
	t.Helper()
	if got := texts(t, s); !slices.Equal(got, want) {
		t.Errorf("the slots have %q, not %q", got, want)
	}
}

// put fails unless a blob can be put with this answer.
func put(t *testing.T, h *Hive, blob string, want api.Errno) {
	t.Helper()
	wanted := digest(blob)
	if want != api.OK {
		wanted = api.Digest{}
	}
	if d, e := h.PutBlob(blob); d != wanted || e != want {
		t.Errorf("PutBlob of %d bytes, %.9q: %x, %d, not %d", len(blob), blob, d, e, want)
	}
}

// blobs fails unless just those of the texts in want are there, of all those in asked.
func blobs(t *testing.T, h *Hive, asked, want string) {
	t.Helper()
	for _, x := range strings.Fields(asked) {
		there := slices.Contains(strings.Fields(want), x)
		got, ok := h.Blob(digest(x))
		if ok != there || ok && got != x || !ok && got != "" {
			t.Errorf("%q: %q, %t, not %t", x, got, ok, there)
		}
	}
}

// records fails unless a record is there, or, of its key, none.
func records(t *testing.T, h *Hive, r api.Record, there bool) {
	t.Helper()
	want := r
	if !there {
		want = api.Record{}
	}
	if got, ok := h.Record(r.Key); got != want || ok != there {
		t.Errorf("%v: %v, %t", r, got, ok)
	}
}

// P5.1: what can't be opened.
func TestOpenErrors(t *testing.T) {
	if h, e := Open(nil); h != nil || e != api.ErrNil {
		t.Error(h, e)
	}
	s := laid(t, blobText("a"), "junk")
	s.Off()
	if h, e := Open(s); h != nil || e != api.ErrDown {
		t.Error(h, e)
	}
	s.On()
	lies(t, s, blobText("a"), "junk")
	if h := opened(t, s); h.Len() != 1 {
		t.Error(h.Len())
	}
	none := shelf.New(0)
	none.Off()
	if h, e := Open(none); h != nil || e != api.ErrDown {
		t.Error(h, e)
	}
	none.On()
	h := opened(t, none)
	if h.Len() != 0 || len(h.Keys()) != 0 || none.Acts() != 0 {
		t.Error(h.Len(), h.Keys(), none.Acts())
	}
	put(t, h, "a", api.ErrFull)
	put(t, h, "", api.ErrFull)
	check(t, "PutRecord", h.PutRecord(api.Record{}), api.ErrFull)
	check(t, "Sync", h.Sync(), api.OK)
}

// entryTexts are texts that are entries, no two of one name.
func entryTexts() []string {
	key := digest("key")
	list := []string{}
	for _, n := range []int{0, 1, 2, 31, 32, 64, 255, 256, 511, 512} {
		list = append(list, blobText(strings.Repeat("w", n)))
	}
	list = append(list, blobText("\x00"), blobText("\xff\xfe"), blobText("b"), blobText("r"), blobText(blobText("x")))
	for _, code := range []api.Errno{1, 30, 34, 51, 98, 99} {
		list = append(list, recordText(api.Record{Key: digest(string(rune(code))), Code: code}))
	}
	list = append(list, recordText(api.Record{Key: key, Out: digest("out")}), recordText(api.Record{}), recordText(api.Record{Key: digest("zero")}))
	return list
}

// noEntries are texts that aren't, in each of the ways.
func noEntries() []string {
	key, blob, zero := digest("key"), digest("out"), api.Digest{}
	k, o, z := string(key[:]), string(blob[:]), string(zero[:])
	d := digest("b")
	list := []string{
		"x", "junk", "b", "r", "\x00", z, string(d[:]), z + row("b", "a"), row("b", "a"), strings.Repeat("\x00", 640), strings.Repeat("x", 640),
		// The check is of the blob, of the row's texts, or of more than the row.
		string(d[:]) + row("b", "b"), k + row("b", "key"),
		// No rows, and rows with something behind.
		checked(""), checked("\x00"), checked("b"), checked(row("b", "a") + "\x00"), checked(row("b", "a")[:5]), checked("\x01\x02\x01\x01b\x01\x02a"),
		checked("\x02\x00\x02\x01\x01b\x01\x01a"), checked("\x81\x01\x01\x01b\x01\x01a"),
		// Rows with too few texts, too many, or another kind.
		checked(row()), checked(row("b")), checked(row("r")), checked(row("b", "a", "")), checked(row("b", "a", "b", "c")), checked(row("", "a")),
		checked(row("B", "a")), checked(row("bb", "a")), checked(row("m", "a")), checked(row("b\x00", "a")), checked(row("r", "a")),
		checked(row("b", k, number(0), o)), checked(row("r", k, number(0))), checked(row("r", k, number(0), o, "")), checked(row("r", k+number(0)+o)),
		checked(row("R", k, number(0), o)), checked(row("", k, number(0), o)), checked(row(k, number(0), o, "r")),
		// Blobs that are too long.
		checked(row("b", strings.Repeat("w", 513))), checked(row("b", strings.Repeat("w", 514))), checked(row("b", strings.Repeat("w", 600))),
		// Records whose key or Out isn't 32 bytes.
		checked(row("r", k[:31], number(0), o)), checked(row("r", k+"x", number(0), o)), checked(row("r", "", number(0), o)),
		checked(row("r", k, number(0), o[:31])), checked(row("r", k, number(0), o+"x")), checked(row("r", k, number(0), "")),
		// Codes that are no numbers, or have another form.
		checked(row("r", k, "", o)), checked(row("r", k, "0", o)), checked(row("r", k, number(0)+"x", o)), checked(row("r", k, "\x01\x00", o)), checked(row("r", k, "\x02\x00\x1e", z)), checked(row("r", k, "\x01", z)),
		// Records that can't be.
		checked(row("r", k, "\x80", z)), checked(row("r", k, "\x81\x01", z)), checked(row("r", k, number(100), z)), checked(row("r", k, number(255), z)), checked(row("r", k, number(256), z)), checked(row("r", k, number(65535), z)),
		checked(row("r", k, "\x05\x01\x00\x00\x00\x00", z)), checked(row("r", k, "\x08\x7f\xff\xff\xff\xff\xff\xff\xff", z)), checked(row("r", k, "\x88\x7f\xff\xff\xff\xff\xff\xff\xff", z)),
		checked(row("r", k, number(1), o)), checked(row("r", k, number(30), o)), checked(row("r", k, number(99), o)), checked(row("r", k, number(1), z[:31]+"\x01")),
	}
	return list
}

// P5.1: entries are there, whatever slots they have, and nothing is written.
func TestOpenEntries(t *testing.T) {
	all := entryTexts()
	s := laid(t, all...)
	acts := s.Acts()
	h := opened(t, s)
	if h.Len() != len(all) || s.Acts() != acts {
		t.Errorf("%d of %d, %d acts", h.Len(), len(all), s.Acts()-acts)
	}
	lies(t, s, all...)
	for _, n := range []int{0, 1, 2, 31, 32, 64, 255, 256, 511, 512} {
		blob := strings.Repeat("w", n)
		if got, ok := h.Blob(digest(blob)); got != blob || !ok {
			t.Errorf("%d bytes: %d, %t", n, len(got), ok)
		}
	}
	for _, code := range []api.Errno{1, 30, 34, 51, 98, 99} {
		records(t, h, failed(string(rune(code)), code), true)
	}
	records(t, h, out("key", "out"), true)
	records(t, h, api.Record{}, true)
	records(t, h, api.Record{Key: digest("zero")}, true)
	records(t, h, failed("none", 30), false)
	slices.Reverse(all)
	if h := opened(t, laid(t, all...)); h.Len() != len(all) {
		t.Error(h.Len())
	}
}

// P5.1: a slot that has anything else is wiped, and free.
func TestOpenOthers(t *testing.T) {
	for _, text := range noEntries() {
		s := laid(t, blobText("one"), text, blobText("three"))
		acts := s.Acts()
		h := opened(t, s)
		if h.Len() != 2 || len(h.Keys()) != 0 || s.Acts() != acts+2 {
			t.Errorf("%q: %d, %d, %d acts", text, h.Len(), len(h.Keys()), s.Acts()-acts)
		}
		lies(t, s, blobText("one"), "", blobText("three"))
		put(t, h, "two", api.OK)
		lies(t, s, blobText("one"), blobText("two"), blobText("three"))
		blobs(t, h, "one two three a", "one two three")
	}
}

// P5.1: with one byte another one, or fewer, or more of them, nothing is an entry.
func TestOpenSpoilt(t *testing.T) {
	for _, good := range []string{blobText(""), blobText("a"), blobText(strings.Repeat("w", 70)), recordText(failed("key", 30)), recordText(out("key", "a"))} {
		list := []string{good + "\x00", good + "x", "\x00" + good, good + good}
		for i := range good {
			b := []byte(good)
			b[i] ^= byte(1 << (i % 8))
			list = append(list, string(b), good[:i])
		}
		for _, text := range list {
			s := laid(t, text)
			if h := opened(t, s); h.Len() != 0 {
				t.Errorf("%q: %d", text, h.Len())
			}
			lies(t, s, "")
		}
	}
}

// P5.1: of several entries of one name the one in the lowest slot is it; a blob and a record may have one digest.
func TestOpenTwice(t *testing.T) {
	a, first, second := blobText("a"), recordText(failed("key", 30)), recordText(out("key", "a"))
	s := laid(t, "", a, first, a, second, a, first)
	acts := s.Acts()
	h := opened(t, s)
	lies(t, s, "", a, first, "", "", "", "")
	if h.Len() != 2 || s.Acts() != acts+5 {
		t.Error(h.Len(), s.Acts()-acts)
	}
	records(t, h, failed("key", 30), true)
	s = laid(t, second, first, second)
	h = opened(t, s)
	lies(t, s, second, "", "")
	records(t, h, out("key", "a"), true)
	both := laid(t, recordText(failed("a", 30)), a)
	h = opened(t, both)
	lies(t, both, recordText(failed("a", 30)), a)
	blobs(t, h, "a", "a")
	records(t, h, failed("a", 30), true)
	// One that is spoilt isn't the lowest.
	s = laid(t, "?"+a[1:], a, a)
	opened(t, s)
	lies(t, s, "", a, "")
}

// P5.1: the wipes are done by rising slots, then the shelf is synced; the power may go in each of these acts.
func TestOpenPower(t *testing.T) {
	a, c := blobText("a"), recordText(failed("c", 9))
	for n := 1; n <= 4; n++ {
		s := laid(t, "one", a, "", "two", a, c)
		s.Arm(n)
		if h, e := Open(s); h != nil || e != api.ErrDown {
			t.Errorf("the power goes in the act %d: %v, %d", n, h, e)
		}
		s.On(1)
		want := []string{"one", a, "", "two", a, c}
		for i, at := range []int{0, 3, 4} {
			if i < n {
				want[at] = ""
			}
		}
		lies(t, s, want...)
		if h := opened(t, s); h.Len() != 2 {
			t.Error(h.Len())
		}
		lies(t, s, "", a, "", "", "", c)
	}
	s := laid(t, "one", a, "", "two", a, c)
	s.Arm(5)
	h := opened(t, s)
	put(t, h, "b", api.ErrDown)
	s.On()
	lies(t, s, "", a, "", "", "", c)
}

// P5.1: without wipes nothing is synced.
func TestOpenNoSync(t *testing.T) {
	s := shelf.New(2)
	check(t, "Write", s.Write(1, blobText("a")), api.OK)
	h := opened(t, s)
	blobs(t, h, "a", "a")
	if s.Acts() != 1 {
		t.Error(s.Acts())
	}
	s.Off()
	s.On()
	lies(t, s, "", "")
	check(t, "Write", s.Write(1, blobText("a")), api.OK)
	check(t, "Write", s.Write(0, "junk"), api.OK)
	opened(t, s)
	s.Off()
	s.On()
	lies(t, s, "", blobText("a"))
}

// P5.1: keys are those of the records alone, rising, in new memory; entries are counted.
func TestKeys(t *testing.T) {
	s := shelf.New(128)
	h := opened(t, s)
	r := rand.New(rand.NewSource(5))
	want := []api.Digest{}
	for n := range 100 {
		var key api.Digest
		r.Read(key[r.Intn(32):])
		want = append(want, key)
		check(t, "PutRecord", h.PutRecord(api.Record{Key: key, Out: key}), api.OK)
		if n%5 == 0 {
			put(t, h, string(key[:]), api.OK)
		}
	}
	slices.SortFunc(want, func(a, b api.Digest) int { return bytes.Compare(a[:], b[:]) })
	got := h.Keys()
	if !slices.Equal(got, want) || h.Len() != 120 {
		t.Errorf("%d keys, %d entries", len(got), h.Len())
	}
	got[0], got[1] = got[1], got[0]
	if !slices.Equal(h.Keys(), want) || !slices.Equal(opened(t, s).Keys(), want) {
		t.Error("other keys")
	}
	s.Off()
	if !slices.Equal(h.Keys(), want) || h.Len() != 120 {
		t.Error("other keys without power")
	}
}

// P5.1, P5.2 and rule 5: a nil store.
func TestNil(t *testing.T) {
	var h *Hive
	h.Pin()
	h.Pin(digest("a"))
	h.Free()
	put(t, h, "a", api.ErrNil)
	put(t, h, strings.Repeat("w", 513), api.ErrNil)
	check(t, "PutRecord", h.PutRecord(api.Record{}), api.ErrNil)
	check(t, "PutRecord", h.PutRecord(api.Record{Code: -1}), api.ErrNil)
	check(t, "Sync", h.Sync(), api.ErrNil)
	blobs(t, h, "a", "")
	records(t, h, api.Record{}, false)
	if len(h.Keys()) != 0 || h.Len() != 0 {
		t.Error(h.Keys(), h.Len())
	}
}

// P5.2: blobs of each length, each in the lowest free slot, as its text; what is too long is none.
func TestPutBlob(t *testing.T) {
	for n := range 513 {
		blob := strings.Repeat("x", n)
		s := laid(t, blobText("a"), "", "")
		h := opened(t, s)
		acts := s.Acts()
		put(t, h, blob, api.OK)
		if h.Len() != 2 && n != 1 || s.Acts() != acts+1 {
			t.Errorf("%d bytes: %d entries, %d acts", n, h.Len(), s.Acts()-acts)
		}
		lies(t, s, blobText("a"), blobText(blob), "")
		if got, ok := h.Blob(digest(blob)); got != blob || !ok {
			t.Errorf("%d bytes: %d, %t", n, len(got), ok)
		}
		put(t, h, blob, api.OK)
		if s.Acts() != acts+1 {
			t.Errorf("%d bytes, twice: %d acts", n, s.Acts()-acts)
		}
	}
	s := laid(t, "", "")
	h := opened(t, s)
	acts := s.Acts()
	for _, n := range []int{513, 514, 600, 640, 641, 1 << 16} {
		put(t, h, strings.Repeat("x", n), api.ErrWide)
	}
	if h.Len() != 0 || s.Acts() != acts {
		t.Error(h.Len(), s.Acts())
	}
	lies(t, s, "", "")
}

// P5.2: which records can be put.
func TestPutRecord(t *testing.T) {
	key, blob := digest("key"), digest("out")
	table := []struct {
		r    api.Record
		want api.Errno
	}{
		{api.Record{}, api.OK}, {api.Record{Key: key}, api.OK}, {api.Record{Key: key, Out: blob}, api.OK}, {api.Record{Out: blob}, api.OK}, {api.Record{Key: key, Out: key}, api.OK},
		{api.Record{Key: key, Code: 1}, api.OK}, {api.Record{Key: key, Code: 30}, api.OK}, {api.Record{Key: key, Code: 98}, api.OK}, {api.Record{Key: key, Code: 99}, api.OK}, {api.Record{Code: 99}, api.OK},
		{api.Record{Key: key, Code: 100}, api.ErrArg}, {api.Record{Key: key, Code: 101}, api.ErrArg}, {api.Record{Key: key, Code: 256}, api.ErrArg}, {api.Record{Key: key, Code: 1 << 32}, api.ErrArg}, {api.Record{Key: key, Code: 1<<32 + 1}, api.ErrArg}, {api.Record{Key: key, Code: math.MaxInt}, api.ErrArg},
		{api.Record{Key: key, Code: -1}, api.ErrArg}, {api.Record{Key: key, Code: -30}, api.ErrArg}, {api.Record{Key: key, Code: math.MinInt}, api.ErrArg}, {api.Record{Key: key, Code: -1, Out: blob}, api.ErrArg},
		{api.Record{Key: key, Code: 1, Out: blob}, api.ErrArg}, {api.Record{Key: key, Code: 99, Out: blob}, api.ErrArg}, {api.Record{Key: key, Code: 100, Out: blob}, api.ErrArg},
		{api.Record{Key: key, Code: 30, Out: api.Digest{31: 1}}, api.ErrArg}, {api.Record{Key: key, Code: 30, Out: api.Digest{1}}, api.ErrArg}, {api.Record{Key: key, Out: api.Digest{31: 1}}, api.OK},
	}
	for _, c := range table {
		s := laid(t, blobText("a"), "", "")
		h := opened(t, s)
		acts := s.Acts()
		check(t, "PutRecord", h.PutRecord(c.r), c.want)
		records(t, h, c.r, c.want == api.OK)
		if c.want != api.OK {
			lies(t, s, blobText("a"), "", "")
			if h.Len() != 1 || s.Acts() != acts {
				t.Error(c.r, h.Len(), s.Acts())
			}
			continue
		}
		lies(t, s, blobText("a"), recordText(c.r), "")
		check(t, "PutRecord", h.PutRecord(c.r), api.OK)
		if h.Len() != 2 || s.Acts() != acts+1 {
			t.Error(c.r, h.Len(), s.Acts())
		}
	}
}

// P5.2: a key has one record; all fields count.
func TestPutTwice(t *testing.T) {
	key, blob := digest("key"), digest("out")
	list := []api.Record{{Key: key}, {Key: key, Out: blob}, {Key: key, Out: key}, {Key: key, Code: 30}, {Key: key, Code: 31}, {Key: key, Out: api.Digest{31: 1}}}
	for i, r := range list {
		s := shelf.New(3)
		h := opened(t, s)
		check(t, "PutRecord", h.PutRecord(r), api.OK)
		for j, x := range list {
			want := api.ErrTwice
			if i == j {
				want = api.OK
			}
			check(t, "PutRecord", h.PutRecord(x), want)
			check(t, "PutRecord", h.PutRecord(api.Record{Key: key, Code: 30, Out: blob}), api.ErrArg)
			records(t, h, r, true)
		}
		if s.Acts() != 1 || h.Len() != 1 {
			t.Error(s.Acts(), h.Len())
		}
		check(t, "PutRecord", h.PutRecord(failed("other", 30)), api.OK)
	}
	// It doesn't matter whether there is room.
	h := opened(t, shelf.New(1))
	check(t, "PutRecord", h.PutRecord(list[0]), api.OK)
	h.Pin(key)
	check(t, "PutRecord", h.PutRecord(list[0]), api.OK)
	check(t, "PutRecord", h.PutRecord(list[1]), api.ErrTwice)
	check(t, "PutRecord", h.PutRecord(failed("other", 30)), api.ErrFull)
}

// P5.2 and P5.3: a blob and a record of one digest know nothing of each other.
func TestOneDigest(t *testing.T) {
	s := shelf.New(4)
	h := opened(t, s)
	put(t, h, "a", api.OK)
	records(t, h, failed("a", 30), false)
	check(t, "PutRecord", h.PutRecord(failed("a", 30)), api.OK)
	records(t, h, failed("a", 30), true)
	blobs(t, h, "a", "a")
	check(t, "PutRecord", h.PutRecord(failed("b", 31)), api.OK)
	blobs(t, h, "a b", "a")
	if h.Len() != 3 || len(h.Keys()) != 2 {
		t.Error(h.Len(), h.Keys())
	}
	lies(t, s, blobText("a"), recordText(failed("a", 30)), recordText(failed("b", 31)), "")
}

// play does calls, told by words: +x a blob is put, ?x it is asked for, =x a record of the key x, ~x it is asked for, !x another record of the key is refused, *x a pin, ^ none is pinned any more.
func play(t *testing.T, h *Hive, calls string) {
	t.Helper()
	for _, word := range strings.Fields(calls) {
		x := word[1:]
		switch word[0] {
		case '+':
			put(t, h, x, api.OK)
		case '?':
			blobs(t, h, x, x)
		case '=':
			check(t, word, h.PutRecord(failed(x, 30)), api.OK)
		case '~':
			records(t, h, failed(x, 30), true)
		case '!':
			check(t, word, h.PutRecord(failed(x, 31)), api.ErrTwice)
		case '*':
			h.Pin(digest(x))
		case '^':
			h.Free()
		}
	}
}

// shown is a store of small blobs and of play's records as words, by slots, told from the slots alone; a free one is a point.
func shown(t *testing.T, s *shelf.Shelf) string {
	t.Helper()
	words := map[string]string{"": "."}
	for _, x := range strings.Split("abcdefghijklmnopqrstuvwxyz", "") {
		words[blobText(x)], words[recordText(failed(x, 30))] = "+"+x, "="+x
	}
	list := []string{}
	for _, text := range texts(t, s) {
		list = append(list, words[text])
	}
	return strings.Join(list, " ")
}

// P5.2 and P5.4: what is thrown out, when there is no room: what wasn't used for the longest time, and isn't pinned.
func TestThrownOut(t *testing.T) {
	table := []struct{ calls, want string }{
		{"+a +b", "+a +b ."},
		{"+a +b +c", "+a +b +c"},
		{"+a +b +c +d", "+d +b +c"},
		{"+a +b +c +d +e +f +g", "+g +e +f"},
		{"+a +b +c ?a +d", "+a +d +c"},
		{"+a +b +c +a +d", "+a +d +c"},
		{"+a +b +c ?b ?a +d", "+a +b +d"},
		{"+a +b +c ?b ?a +d +e", "+a +e +d"},
		{"+a +b +c ?b ?a ?b ?c +d", "+d +b +c"},
		{"=a =b =c =d", "=d =b =c"},
		{"=a =b =c ~a =d", "=a =d =c"},
		{"=a =b =c =a =d", "=a =d =c"},
		{"=a =b =c !a =d", "=d =b =c"},
		{"+a =a +b +c", "+c =a +b"},
		{"+a =a +b ?a +c", "+a +c +b"},
		{"=a +a +b ~a +c", "=a +c +b"},
		{"=a +a +b ?a +c", "+c +a +b"},
		{"+a +b +c *a +d", "+a +d +c"},
		{"*a +a +b +c +d", "+a +d +c"},
		{"+a +b +c *a *b +d +e +f", "+a +b +f"},
		{"+a +b +c *a *b +d ^ +e", "+e +b +d"},
		{"+a +b +c *a *a ^ +d", "+d +b +c"},
		{"+a =a +b *a +c +d", "+a =a +d"},
		{"+a +b +c *z +d", "+d +b +c"},
		{"+a +b +c *d +d +e +f +g", "+d +g +f"},
	}
	for _, c := range table {
		s := shelf.New(3)
		play(t, opened(t, s), c.calls)
		if got := shown(t, s); got != c.want {
			t.Errorf("%s: %s, not %s", c.calls, got, c.want)
		}
	}
}

// P5.2: behind Open all were used by rising slots, whatever was ahead; asking for what isn't there uses nothing.
func TestUsedOpen(t *testing.T) {
	s := shelf.New(4)
	h := opened(t, s)
	play(t, h, "+a +b =c +d ?a +a ~c")
	h = opened(t, s)
	play(t, h, "?d")
	blobs(t, h, "x y c", "")
	records(t, h, failed("a", 30), false)
	play(t, h, "+e +f +g +h")
	if got := shown(t, s); got != "+e +f +g +h" {
		t.Error(got)
	}
	play(t, opened(t, s), "+i")
	if got := shown(t, s); got != "+i +f +g +h" {
		t.Error(got)
	}
	// What is pinned isn't any more, either.
	h.Pin(digest("i"))
	play(t, opened(t, s), "+j")
	if got := shown(t, s); got != "+j +f +g +h" {
		t.Error(got)
	}
}

// P5.2: what is thrown out is wiped, surely, ahead of what comes; the power may go in each of the three acts.
func TestThrownOutPower(t *testing.T) {
	a, b, c, d := blobText("a"), blobText("b"), blobText("c"), recordText(failed("d", 30))
	table := []struct {
		n, fate int
		want    []string
	}{
		{1, 0, []string{a, b, ""}}, {1, 1, []string{"", b, c}}, {1, 2, []string{a, b, ""}},
		{2, 0, []string{a, b, ""}}, {2, 1, []string{"", b, c}},
		{3, 0, []string{"", b, c}}, {3, 1, []string{d, b, c}}, {3, 32, []string{d[:10], b, c}},
	}
	for _, x := range table {
		s := shelf.New(3)
		h := opened(t, s)
		play(t, h, "+a +b")
		check(t, "Sync", h.Sync(), api.OK)
		play(t, h, "+c")
		s.Arm(x.n)
		check(t, "PutRecord", h.PutRecord(failed("d", 30)), api.ErrDown)
		if h.Len() != 3 || len(h.Keys()) != 0 {
			t.Errorf("behind the error: %d entries, %d keys", h.Len(), len(h.Keys()))
		}
		s.On(x.fate)
		lies(t, s, x.want...)
	}
	s := shelf.New(1)
	h := opened(t, s)
	play(t, h, "+a")
	acts := s.Acts()
	play(t, h, "+b")
	if s.Acts() != acts+3 {
		t.Error(s.Acts() - acts)
	}
}

// P5.2 and P5.4: with all pinned there is no room; nothing has changed then, neither what was used.
func TestFull(t *testing.T) {
	s := shelf.New(1)
	h := opened(t, s)
	play(t, h, "+a *a")
	put(t, h, "b", api.ErrFull)
	play(t, h, "?a ^ +b")
	if got := shown(t, s); got != "+b" {
		t.Error(got)
	}
	s = shelf.New(3)
	h = opened(t, s)
	play(t, h, "*c *a *b +a =b +c")
	acts := s.Acts()
	for range 3 {
		put(t, h, "d", api.ErrFull)
		put(t, h, strings.Repeat("d", 513), api.ErrWide)
		check(t, "PutRecord", h.PutRecord(failed("a", 30)), api.ErrFull)
		check(t, "PutRecord", h.PutRecord(failed("a", -1)), api.ErrArg)
		check(t, "PutRecord", h.PutRecord(failed("b", 31)), api.ErrTwice)
	}
	if h.Len() != 3 || s.Acts() != acts || shown(t, s) != "+a =b +c" {
		t.Error(h.Len(), s.Acts(), shown(t, s))
	}
	play(t, h, "+c =b +a ^ +d")
	if got := shown(t, s); got != "+a =b +d" {
		t.Error(got)
	}
	list := []api.Digest{digest("a"), digest("b"), digest("d")}
	h.Pin(list...)
	list[0] = digest("z")
	put(t, h, "e", api.ErrFull)
	h.Free()
	h.Pin()
	play(t, h, "+e")
}

// P5.2: once the power has gone, nothing can be done in a store any more, though it is back.
func TestDown(t *testing.T) {
	wide, bad := strings.Repeat("w", 513), api.Record{Code: -1}
	gone := func(s *shelf.Shelf, h *Hive) {
		t.Helper()
		acts := s.Acts()
		put(t, h, "a", api.ErrDown)
		put(t, h, "b", api.ErrDown)
		put(t, h, wide, api.ErrDown)
		check(t, "PutRecord", h.PutRecord(failed("a", 30)), api.ErrDown)
		check(t, "PutRecord", h.PutRecord(failed("b", 30)), api.ErrDown)
		check(t, "PutRecord", h.PutRecord(bad), api.ErrDown)
		check(t, "Sync", h.Sync(), api.ErrDown)
		h.Pin(digest("a"))
		h.Free()
		if h.Len() != 2 || len(h.Keys()) != 1 || s.Acts() != acts {
			t.Error(h.Len(), h.Keys(), s.Acts()-acts)
		}
	}
	ways := []func(s *shelf.Shelf, h *Hive){
		func(s *shelf.Shelf, h *Hive) { s.Off() },
		func(s *shelf.Shelf, h *Hive) { s.Arm(1); put(t, h, "c", api.ErrDown) },
		func(s *shelf.Shelf, h *Hive) {
			s.Arm(1)
			check(t, "PutRecord", h.PutRecord(failed("c", 30)), api.ErrDown)
		},
		func(s *shelf.Shelf, h *Hive) { s.Arm(1); check(t, "Sync", h.Sync(), api.ErrDown) },
		func(s *shelf.Shelf, h *Hive) { s.Arm(1); check(t, "Write", s.Write(3, "junk"), api.ErrDown) },
	}
	for i, way := range ways {
		s := shelf.New(4)
		h := opened(t, s)
		play(t, h, "+a =a")
		check(t, "Sync", h.Sync(), api.OK)
		way(s, h)
		gone(s, h)
		blobs(t, h, "a", "")
		records(t, h, failed("a", 30), false)
		gone(s, h)
		s.On(1)
		gone(s, h)
		// What it had can still be read.
		blobs(t, h, "a b", "a")
		records(t, h, failed("a", 30), true)
		again := opened(t, s)
		gone(s, h)
		play(t, again, "+a =a ?a ~a +b")
		gone(s, h)
		s.Off()
		s.On()
		check(t, "Sync", again.Sync(), api.ErrDown)
		if t.Failed() {
			t.Fatalf("the way %d", i)
		}
	}
}

// P5.2: a put that is refused with the power on touches no slot; one that is there takes no act.
func TestNoAct(t *testing.T) {
	s := shelf.New(2)
	h := opened(t, s)
	play(t, h, "+a =a")
	s.Arm(1)
	play(t, h, "+a =a !a ?a ~a *a *b +a")
	put(t, h, "b", api.ErrFull)
	put(t, h, strings.Repeat("w", 513), api.ErrWide)
	if s.Down() || s.Acts() != 2 {
		t.Error(s.Down(), s.Acts())
	}
	check(t, "Sync", h.Sync(), api.ErrDown)
}

// P5.2: Sync makes sure what was put, and is one act.
func TestSync(t *testing.T) {
	s := shelf.New(3)
	h := opened(t, s)
	play(t, h, "+a =b")
	check(t, "Sync", h.Sync(), api.OK)
	play(t, h, "+c")
	if s.Acts() != 4 {
		t.Error(s.Acts())
	}
	s.Off()
	s.On()
	if got := shown(t, s); got != "+a =b ." {
		t.Error(got)
	}
}

// P5.3: the slot is read each time: with another text, its entry is none any more, and the slot is free; the other slots' are.
func TestReadEachTime(t *testing.T) {
	spoil := []string{"", "junk", blobText("b"), blobText("z"), recordText(failed("b", 30)), recordText(failed("a", 31)), recordText(out("a", "a")), blobText("a") + "x", blobText("a")[:39], "x" + blobText("a")[1:], strings.Repeat("w", 640)}
	for _, text := range spoil {
		s := shelf.New(3)
		h := opened(t, s)
		play(t, h, "+a =a +b")
		check(t, "Write", s.Write(0, text), api.OK)
		acts := s.Acts()
		blobs(t, h, "a b a", "b")
		records(t, h, failed("a", 30), true)
		if h.Len() != 2 || len(h.Keys()) != 1 || s.Acts() != acts {
			t.Errorf("%q: %d, %d, %d acts", text, h.Len(), len(h.Keys()), s.Acts()-acts)
		}
		check(t, "Write", s.Write(1, text), api.OK)
		records(t, h, failed("a", 30), false)
		blobs(t, h, "b", "b")
		if h.Len() != 1 || len(h.Keys()) != 0 {
			t.Errorf("%q: %d, %d", text, h.Len(), len(h.Keys()))
		}
		// The lowest free slot is the first one again, though it isn't empty.
		play(t, h, "+c")
		lies(t, s, blobText("c"), text, blobText("b"))
		play(t, h, "+a")
		lies(t, s, blobText("c"), blobText("a"), blobText("b"))
	}
}

// P5.3: a slot that has its entry's text again, ahead of being asked for, has the entry; behind that it is free all the same.
func TestReadAgain(t *testing.T) {
	s := shelf.New(2)
	h := opened(t, s)
	play(t, h, "+a")
	check(t, "Write", s.Write(0, "junk"), api.OK)
	check(t, "Write", s.Write(0, blobText("a")), api.OK)
	play(t, h, "?a")
	check(t, "Write", s.Write(0, "junk"), api.OK)
	blobs(t, h, "a", "")
	check(t, "Write", s.Write(0, blobText("a")), api.OK)
	blobs(t, h, "a", "")
	play(t, h, "+b")
	if got := shown(t, s); got != "+b ." {
		t.Error(got)
	}
}

// P5.2 and P5.3: what is put is there, though its slot had got another text.
func TestPutSpoilt(t *testing.T) {
	s := shelf.New(3)
	h := opened(t, s)
	play(t, h, "+a =a +b")
	check(t, "Write", s.Write(0, "junk"), api.OK)
	check(t, "Write", s.Write(1, "junk"), api.OK)
	check(t, "PutRecord", h.PutRecord(failed("a", 31)), api.OK)
	records(t, h, failed("a", 31), true)
	put(t, h, "a", api.OK)
	blobs(t, h, "a b", "a b")
	lies(t, s, blobText("a"), recordText(failed("a", 31)), blobText("b"))
	if h.Len() != 3 {
		t.Error(h.Len())
	}
}

// P5.3: without power nothing is answered; it is all there when it is back.
func TestReadDown(t *testing.T) {
	s := shelf.New(4)
	h := opened(t, s)
	play(t, h, "+a =b")
	check(t, "Sync", h.Sync(), api.OK)
	play(t, h, "+c =d")
	s.Off()
	for range 2 {
		blobs(t, h, "a c", "")
		records(t, h, failed("b", 30), false)
		records(t, h, failed("d", 30), false)
	}
	s.On(0, 1)
	blobs(t, h, "a c", "a")
	records(t, h, failed("b", 30), true)
	records(t, h, failed("d", 30), true)
	if h.Len() != 3 {
		t.Error(h.Len())
	}
}

// Rule 3: lists that are handed in stay as they are; stores of two shelves know nothing of each other.
func TestApart(t *testing.T) {
	list := []api.Digest{digest("b"), digest("a"), digest("b"), digest("z")}
	kept := slices.Clone(list)
	one, two := shelf.New(1), shelf.New(1)
	g, h := opened(t, one), opened(t, two)
	play(t, g, "+a")
	play(t, h, "+a")
	g.Pin(list[:3]...)
	if !slices.Equal(list, kept) {
		t.Error("the list has changed")
	}
	put(t, g, "c", api.ErrFull)
	play(t, h, "+c")
	if shown(t, one) != "+a" || shown(t, two) != "+c" {
		t.Error(shown(t, one), shown(t, two))
	}
}
