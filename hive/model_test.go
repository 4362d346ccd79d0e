package hive

import (
	"bytes"
	"maps"
	"math/rand"
	"slices"
	"strings"
	"testing"

	"apiary/api"
	"apiary/shelf"
)

// label is what an entry's text is known by.
type label struct {
	record bool
	digest api.Digest
}

// model is a store made the long way: texts by slots, and places in the order of their use.
type model struct {
	labels map[string]label // of all texts that are entries here; no other one is
	slots  []string         // what the shelf has
	mine   []string         // what the store holds to be there
	used   []int            // places of entries, the eldest first
	pins   []api.Digest
	live   bool // the power hasn't gone since it was opened
	off    bool
	acts   int
	goesIn int // the number of an act, 0: of none

	must  map[string]int // entries that the power can't take
	maybe map[string]int // entries that may be there when it is back
	free  bool           // others wrote since all was sure, so that anything may be there
	blind bool           // others wrote since it was opened: what it holds to be there may be another thing
}

func newModel(slots int) *model {
	m := &model{labels: map[string]label{}, slots: make([]string, slots), mine: make([]string, slots), live: true}
	m.must, m.maybe = map[string]int{}, map[string]int{}
	for _, b := range someBlobs() {
		m.labels[blobText(b)] = label{digest: digest(b)}
	}
	for _, r := range someRecords() {
		m.labels[recordText(r)] = label{record: true, digest: r.Key}
	}
	return m
}

func someBlobs() []string {
	return []string{"", "a", "b", "c", "d", strings.Repeat("w", 64), strings.Repeat("w", 512)}
}

// someRecords are of four keys, two of which are blobs' digests.
func someRecords() []api.Record {
	return []api.Record{failed("a", 30), out("a", "b"), failed("", 99), {Key: digest("")}, {}, failed("k", 1), out("k", "a")}
}

func (m *model) cut() { m.off, m.live, m.goesIn = true, false, 0 }

// act is whether the power lasts through one.
func (m *model) act() bool {
	m.acts++
	if m.acts == m.goesIn {
		m.cut()
	}
	return !m.off
}

func (m *model) write(at int, text string) bool {
	m.slots[at] = text
	return m.act()
}

// settle: all that the store has is sure, if it knows what that is.
func (m *model) settle() {
	if m.blind {
		return
	}
	m.must, m.maybe, m.free = map[string]int{}, map[string]int{}, false
	for _, text := range m.mine {
		if text != "" {
			m.must[text] = 1
		}
	}
}

func (m *model) forget(at int) {
	m.mine[at] = ""
	m.used = slices.DeleteFunc(m.used, func(x int) bool { return x == at })
}

func (m *model) use(at int) {
	m.used = append(slices.DeleteFunc(m.used, func(x int) bool { return x == at }), at)
}

// find is where an entry is, if its slot still has its text.
func (m *model) find(l label) int {
	for at, text := range m.mine {
		if text == "" || m.labels[text] != l {
			continue
		}
		if m.slots[at] == text {
			return at
		}
		m.forget(at)
	}
	return -1
}

// victim is the eldest entry that isn't pinned.
func (m *model) victim() int {
	for _, at := range m.used {
		if !slices.Contains(m.pins, m.labels[m.mine[at]].digest) {
			return at
		}
	}
	return -1
}

func (m *model) put(text string) api.Errno {
	if !m.live {
		return api.ErrDown
	}
	if at := m.find(m.labels[text]); at >= 0 {
		if m.mine[at] != text {
			return api.ErrTwice
		}
		m.use(at)
		return api.OK
	}
	at := slices.Index(m.mine, "")
	if at < 0 {
		at = m.victim()
		if at < 0 {
			return api.ErrFull
		}
		delete(m.must, m.mine[at])
		m.maybe[m.mine[at]] = 1
		if !m.write(at, "") || !m.act() {
			return api.ErrDown
		}
	}
	m.maybe[text] = 1
	if !m.write(at, text) {
		return api.ErrDown
	}
	m.mine[at] = text
	m.use(at)
	return api.OK
}

func (m *model) sync() api.Errno {
	if !m.live || !m.act() {
		return api.ErrDown
	}
	m.settle()
	return api.OK
}

// read is what an entry's slot has.
func (m *model) read(l label) (string, bool) {
	if m.off {
		return "", false
	}
	at := m.find(l)
	if at < 0 {
		return "", false
	}
	m.use(at)
	return m.mine[at], true
}

// open is a store anew, of what the slots have.
func (m *model) open() api.Errno {
	if m.off {
		return api.ErrDown
	}
	mine, wiped := make([]string, len(m.slots)), false
	taken := map[label]int{}
	for at, text := range m.slots {
		l, ok := m.labels[text]
		if ok && taken[l] == 0 {
			mine[at], taken[l] = text, 1
			continue
		}
		if text != "" {
			wiped = true
			if !m.write(at, "") {
				return api.ErrDown
			}
		}
	}
	if wiped && !m.act() {
		return api.ErrDown
	}
	m.mine, m.used, m.pins, m.live, m.blind = mine, nil, nil, true, false
	for at, text := range mine {
		if text != "" {
			m.used = append(m.used, at)
		}
	}
	return api.OK
}

// kept fails, behind Open, if an entry is lost that was sure, or one is there that was none.
func (m *model) kept(t *testing.T) {
	t.Helper()
	if m.free {
		return
	}
	for text := range m.must {
		if !slices.Contains(m.mine, text) {
			t.Fatalf("lost: %q", text)
		}
	}
	for _, text := range m.mine {
		if text != "" && m.must[text]+m.maybe[text] == 0 {
			t.Fatalf("neither sure nor put since: %q", text)
		}
	}
}

// same fails unless the store and its shelf tell all that the model does.
func (m *model) same(t *testing.T, s *shelf.Shelf, h *Hive) {
	t.Helper()
	count, keys := 0, []api.Digest{}
	for _, text := range m.mine {
		if text == "" {
			continue
		}
		count++
		if l := m.labels[text]; l.record {
			keys = append(keys, l.digest)
		}
	}
	slices.SortFunc(keys, func(a, b api.Digest) int { return bytes.Compare(a[:], b[:]) })
	if h.Len() != count || !slices.Equal(h.Keys(), keys) || s.Acts() != m.acts || s.Down() != m.off {
		t.Fatalf("%d entries, keys %x, %d acts, off %t; not %d, %x, %d, %t", h.Len(), h.Keys(), s.Acts(), s.Down(), count, keys, m.acts, m.off)
	}
	for at, want := range m.slots {
		if got, e := s.Read(at); !m.off && (got != want || e != api.OK) {
			t.Fatalf("the slot %d: %q, %d, not %q", at, got, e, want)
		}
	}
}

// machine is a store, its shelf, and the model of both.
type machine struct {
	*model
	s *shelf.Shelf
	h *Hive
}

// ask holds what is read of an entry against the model.
func (m *machine) ask(t *testing.T, x int) {
	t.Helper()
	if x%2 == 0 {
		blob := someBlobs()[x/2%7]
		_, there := m.read(label{digest: digest(blob)})
		if got, ok := m.h.Blob(digest(blob)); ok != there || ok && got != blob || !ok && got != "" {
			t.Fatalf("%q: %q, %t, not %t", blob, got, ok, there)
		}
		return
	}
	key := someRecords()[x/2%7].Key
	text, there := m.read(label{record: true, digest: key})
	if got, ok := m.h.Record(key); ok != there || ok && recordText(got) != text || !ok && got != (api.Record{}) {
		t.Fatalf("%x: %v, %t, not %t", key, got, ok, there)
	}
}

// meddle is a slot written by others, an entry among that.
func (m *machine) meddle(t *testing.T, at, x int) {
	t.Helper()
	at %= len(m.slots)
	text := "junk"
	if x%3 > 0 {
		text = slices.Sorted(maps.Keys(m.labels))[x%len(m.labels)]
	}
	want := api.ErrDown
	if !m.off && m.write(at, text) {
		want = api.OK
	}
	m.free, m.blind = true, true
	check(t, "Write", m.s.Write(at, text), want)
}

// reopen is the store anew.
func (m *machine) reopen(t *testing.T) {
	t.Helper()
	want := m.open()
	h, e := Open(m.s)
	if e != want || (h == nil) != (want != api.OK) {
		t.Fatalf("Open: %d, not %d", e, want)
	}
	if e == api.OK {
		m.h = h
		m.kept(t)
	}
}

// back is the power, and what it left in the slots.
func (m *machine) back(t *testing.T, fates ...int) {
	t.Helper()
	m.s.On(fates...)
	if m.off {
		m.off = false
		m.slots = texts(t, m.s)
	}
}

// step plays three bytes as a call.
func (m *machine) step(t *testing.T, op, a, b int) {
	t.Helper()
	switch op % 16 {
	case 0, 1, 2:
		blob := someBlobs()[a%7]
		put(t, m.h, blob, m.put(blobText(blob)))
	case 3, 4, 5:
		r := someRecords()[a%7]
		check(t, "PutRecord", m.h.PutRecord(r), m.put(recordText(r)))
	case 6, 7:
		m.ask(t, a)
	case 8, 9:
		check(t, "Sync", m.h.Sync(), m.sync())
	case 10:
		list := []api.Digest{someRecords()[a%7].Key, digest(someBlobs()[b%7])}[:1+a%2]
		m.h.Pin(list...)
		m.pins = append(m.pins, list...)
	case 11:
		m.h.Free()
		m.pins = nil
	case 12:
		if b%2 == 0 {
			m.meddle(t, a, b/2)
		} else {
			m.reopen(t)
		}
	case 13:
		n := a % 6
		m.s.Arm(n)
		m.goesIn = 0
		if n > 0 {
			m.goesIn = m.acts + n
		}
	case 14:
		m.s.Off()
		m.cut()
	case 15:
		m.back(t, []int{a - 128, b, a*b - 1000, a}[:a%5%4]...)
		m.reopen(t)
	}
}

// drive plays bytes as calls, on a store and on its model; the first byte tells how many slots there are.
func drive(t *testing.T, script string) {
	t.Helper()
	if script == "" {
		return
	}
	slots := 1 + int(script[0])%6
	s := shelf.New(slots)
	m := &machine{model: newModel(slots), s: s, h: opened(t, s)}
	for script = script[1:]; len(script) >= 3; script = script[3:] {
		m.step(t, int(script[0]), int(script[1]), int(script[2]))
		m.same(t, s, m.h)
	}
}

// P5.1 to P5.5: calls at random, each held against the model.
func TestAnyCalls(t *testing.T) {
	r := rand.New(rand.NewSource(55))
	for range 1500 {
		b := make([]byte, 1+3*(1+r.Intn(100)))
		r.Read(b)
		drive(t, string(b))
		if t.Failed() {
			return
		}
	}
}

// P5.5: wherever the power goes in a row of calls, and whatever the fates are.
func TestWhereverItGoes(t *testing.T) {
	r := rand.New(rand.NewSource(5))
	for range 40 {
		slots := 1 + r.Intn(6)
		calls := make([][3]int, 30)
		for i := range calls {
			calls[i] = [3]int{r.Intn(12), r.Intn(256), r.Intn(256)}
		}
		for n := 1; ; n++ {
			s := shelf.New(slots)
			m := &machine{model: newModel(slots), s: s, h: opened(t, s)}
			s.Arm(n)
			m.goesIn = n
			for _, c := range calls {
				m.step(t, c[0], c[1], c[2])
				m.same(t, s, m.h)
			}
			if !s.Down() {
				break
			}
			m.back(t, r.Int()-r.Int(), r.Intn(100)-50, r.Intn(2000), r.Intn(9))
			m.reopen(t)
			m.same(t, s, m.h)
			if t.Failed() {
				return
			}
		}
	}
}

// P5.5: each torn end of an entry's text is none, on an empty slot and on one that had another entry.
func TestTorn(t *testing.T) {
	for n := range len(blobText("two")) + 1 {
		for _, ahead := range []string{"", "one", strings.Repeat("w", 512)} {
			s := shelf.New(1)
			h := opened(t, s)
			if ahead != "" {
				put(t, h, ahead, api.OK)
				check(t, "Sync", h.Sync(), api.OK)
			}
			put(t, h, "two", api.OK)
			s.Off()
			s.On(3*n + 2)
			h = opened(t, s)
			if n < len(blobText("two")) {
				blobs(t, h, "one two", "")
				lies(t, s, "")
				continue
			}
			blobs(t, h, "one two", "two")
			lies(t, s, blobText("two"))
		}
	}
}

// P5.1 to P5.5: no calls make a store panic, or tell anything but its model.
func FuzzCalls(f *testing.F) {
	f.Add("\x02\x00\x01\x00\x03\x02\x00\x08\x00\x00\x00\x03\x00\x00\x04\x00\x0e\x00\x00\x0f\x81\x05")
	f.Add("\x01\x0d\x04\x00\x00\x01\x00\x00\x02\x00\x00\x03\x00\x0f\x00\x00\x06\x02\x00\x0c\x00\x02\x06\x02\x00")
	f.Fuzz(drive)
}
