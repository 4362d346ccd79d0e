package oven

import (
	"crypto/sha256"
	"fmt"
	"math/big"
	"math/rand"
	"slices"
	"testing"

	"apiary/api"
	"apiary/mill"
	"apiary/trellis"
)

// sum is a text's digest.
func sum(s string) api.Digest { return sha256.Sum256([]byte(s)) }

// modelNum is a number's bytes, by way of great numbers.
func modelNum(n int) string {
	size, mark := big.NewInt(int64(n)), 0
	if n < 0 {
		size.Not(size)
		mark = 128
	}
	b := size.Bytes()
	return string([]byte{byte(mark + len(b))}) + string(b)
}

// modelKey is Key, the bytes of its row written one by one.
func modelKey(code string, inputs ...api.Result) api.Digest {
	texts := []string{"action", code}
	for _, r := range inputs {
		if r.Code != 0 {
			texts = append(texts, "e"+modelNum(int(r.Code)))
			continue
		}
		d := sum(r.Blob)
		texts = append(texts, "d"+string(d[:]))
	}
	row := modelNum(len(texts))
	for _, s := range texts {
		row += modelNum(len(s)) + s
	}
	return sum(row)
}

// modelResult is the result of a name of a build that can be, found by going down from it.
func modelResult(g api.Graph, sources []api.Source, name string) api.Result {
	for _, s := range sources {
		if s.Name == name {
			return blob(s.Blob)
		}
	}
	at := slices.IndexFunc(g.Actions, func(a api.Action) bool { return a.Name == name })
	inputs := modelInputs(g, sources, g.Actions[at])
	texts := []string{}
	for _, r := range inputs {
		if r.Code != 0 {
			return fault(api.ErrDep)
		}
		texts = append(texts, r.Blob)
	}
	r, _ := mill.Run(g.Actions[at].Code, texts...)
	return r
}

func modelInputs(g api.Graph, sources []api.Source, a api.Action) []api.Result {
	list := []api.Result{}
	for _, s := range a.Inputs {
		list = append(list, modelResult(g, sources, s))
	}
	return list
}

// modelError is the error of a build with sources.
func modelError(g api.Graph, sources []api.Source) api.Errno {
	if e := trellis.Check(g); e != 0 {
		return e
	}
	given, wide := map[string]int{}, false
	for _, s := range sources {
		given[s.Name]++
		wide = wide || len(s.Blob) > 512
	}
	for _, n := range given {
		if n > 1 {
			return api.ErrTwice
		}
	}
	for _, s := range g.Sources {
		given[s]--
	}
	for _, n := range given {
		if n != 0 {
			return api.ErrMiss
		}
	}
	if wide {
		return api.ErrWide
	}
	return 0
}

// checkBuild fails unless both calls answer of a build what the models do, and the answers hang together as P9.3 says.
func checkBuild(t *testing.T, g api.Graph, sources ...api.Source) ([]api.Built, []api.Digest, api.Errno) {
	t.Helper()
	list, e := Build(g, sources...)
	keys, f := Keys(g, sources...)
	if want := modelError(g, sources); e != want || f != want {
		t.Fatalf("%v of %v: %d and %d, not %d", g, sources, e, f, want)
	}
	if e != 0 {
		if len(list) != 0 || len(keys) != 0 {
			t.Fatalf("%v of %v: %v, %x beside an error", g, sources, list, keys)
		}
		return nil, nil, e
	}
	if len(list) != len(g.Actions) || len(keys) != len(g.Actions) {
		t.Fatalf("%v of %v: %v, %x", g, sources, list, keys)
	}
	for i, a := range g.Actions {
		want := modelResult(g, sources, a.Name)
		if list[i].Name != a.Name || list[i].Result != want {
			t.Fatalf("%v of %v: %v at %d, not %v", g, sources, list[i], i, want)
		}
		inputs := modelInputs(g, sources, a)
		key := modelKey(a.Code, inputs...)
		if got := Make(a.Code, inputs...); got != want || Key(a.Code, inputs...) != key {
			t.Fatalf("%q of %v: %v, not %v, or another key", a.Code, inputs, got, want)
		}
		if want.Code == api.ErrDep {
			key = api.Digest{}
		}
		if keys[i] != key {
			t.Fatalf("%v of %v: the key %x at %d, not %x", g, sources, keys[i], i, key)
		}
		checkRecords(t, key, list...)
	}
	return list, keys, 0
}

// checkRecords fails unless each result fits its own record, and the others' just if they are the same.
func checkRecords(t *testing.T, key api.Digest, list ...api.Built) {
	t.Helper()
	for _, a := range list {
		x := Record(key, a.Result)
		for _, b := range list {
			if Fits(x, b.Result) != (a.Result == b.Result) {
				t.Fatalf("%v, %v: %v", a, b, x)
			}
		}
	}
}

// someCodes is codes that come to blobs, and some that fail.
var someCodes = []string{
	"", "c", "i\x00", "i\x00r", "i\x01", "i\x00i\x01c", "i\x00dc", "i\x00dcdc", "p\x01x", "p\x00", "i\x00h", "i\x00l", "i\x00t\x01", "i\x00k\x02", "i\x00i\x01=", "g\x00", "?", "i\x02i\x00c", "i\x03",
	"i\x00j\x05i\x00",
}

// someBlobs is blobs of sources; they are few, so that many results are the same.
var someBlobs = []string{"", "a", "go", "og", text(64), text(256), text(512)}

// anyBuild is a build that can be, with its sources in any order; its actions stand in no order.
func anyBuild(r *rand.Rand) (api.Graph, []api.Source) {
	g, sources, known := api.Graph{}, []api.Source{}, []string{}
	for i := range r.Intn(9) {
		name := fmt.Sprint("s", i)
		g.Sources = append(g.Sources, name)
		sources = append(sources, src(name, someBlobs[r.Intn(len(someBlobs))]))
		known = append(known, name)
	}
	for i := range r.Intn(13) {
		a := act(fmt.Sprint("a", i), someCodes[r.Intn(len(someCodes))])
		for range r.Intn(5) {
			if len(known) > 0 {
				a.Inputs = append(a.Inputs, known[r.Intn(len(known))])
			}
		}
		g.Actions = append(g.Actions, a)
		known = append(known, a.Name)
	}
	r.Shuffle(len(g.Actions), func(i, j int) { g.Actions[i], g.Actions[j] = g.Actions[j], g.Actions[i] })
	r.Shuffle(len(sources), func(i, j int) { sources[i], sources[j] = sources[j], sources[i] })
	return g, sources
}

// spoil is the sources, or the build, with something wrong, perhaps.
func spoil(r *rand.Rand, g api.Graph, sources []api.Source) (api.Graph, []api.Source) {
	sources = slices.Clone(sources)
	if len(g.Actions) == 0 || len(sources) == 0 {
		return g, sources
	}
	at := r.Intn(len(sources))
	switch r.Intn(8) {
	case 0:
		sources = slices.Delete(sources, at, at+1)
	case 1:
		sources = append(sources, sources[at])
	case 2:
		sources[at].Name = sources[r.Intn(len(sources))].Name
	case 3:
		sources[at].Blob = text(513)
	case 4:
		sources[at].Name = g.Actions[0].Name
	case 5:
		sources = append(sources, src(g.Actions[0].Name, ""))
	case 6:
		g.Sources = append(slices.Clone(g.Sources), g.Sources[at])
	case 7:
		g.Sources = slices.Delete(slices.Clone(g.Sources), at, at+1)
	}
	return g, sources
}

// P9.1 to P9.3: builds at random come to what the model says; two actions of one key have one result, in whatever builds.
func TestModel(t *testing.T) {
	r := rand.New(rand.NewSource(9))
	byKey := map[api.Digest]api.Result{}
	errors, codes, met := map[api.Errno]int{}, map[api.Errno]int{}, 0
	for range 6000 {
		g, sources := anyBuild(r)
		list, keys, e := checkBuild(t, g, sources...)
		if e != 0 {
			t.Fatalf("%v of %v: %d", g, sources, e)
		}
		for i, b := range list {
			codes[b.Code]++
			if b.Code == api.ErrDep {
				continue
			}
			if known, ok := byKey[keys[i]]; ok {
				met++
				if known != b.Result {
					t.Fatalf("%v and %v of one key", known, b)
				}
			}
			byKey[keys[i]] = b.Result
		}
		for range 3 {
			g, sources := spoil(r, g, sources)
			_, _, e := checkBuild(t, g, sources...)
			errors[e]++
		}
	}
	for _, e := range []api.Errno{0, api.ErrFuel, api.ErrStack, api.ErrOp, api.ErrWide, api.ErrDep} {
		if codes[e] < 50 {
			t.Errorf("the result %d came %d times", e, codes[e])
		}
	}
	for _, e := range []api.Errno{0, api.ErrArg, api.ErrTwice, api.ErrMiss, api.ErrWide} {
		if errors[e] < 50 {
			t.Errorf("the error %d came %d times", e, errors[e])
		}
	}
	if met < 1000 {
		t.Errorf("only %d keys came again", met)
	}
}

// P9.3: what isn't dirty comes to the same when sources change, and has the same key.
func TestClean(t *testing.T) {
	r := rand.New(rand.NewSource(93))
	clean, changed := 0, 0
	for range 3000 {
		g, sources := anyBuild(r)
		after, names := slices.Clone(sources), []string{}
		for i := range after {
			if r.Intn(3) == 0 {
				after[i].Blob = someBlobs[r.Intn(len(someBlobs))]
				names = append(names, after[i].Name)
			}
		}
		list, _ := Build(g, sources...)
		keys, _ := Keys(g, sources...)
		more, _ := Build(g, after...)
		others, _ := Keys(g, after...)
		dirty := trellis.Dirty(g, names...)
		for i := range g.Actions {
			same := list[i] == more[i] && keys[i] == others[i]
			if slices.Contains(dirty, i) {
				if !same {
					changed++
				}
				continue
			}
			clean++
			if !same {
				t.Fatalf("%v of %v and of %v: %v and %v at %d", g, sources, after, list[i], more[i], i)
			}
		}
	}
	if clean < 500 || changed < 500 {
		t.Errorf("%d weren't dirty, %d came to something else", clean, changed)
	}
}

// P9.2: all ways to hand in up to three sources with some names, one of them too long perhaps.
func TestAllSources(t *testing.T) {
	names := []string{"a", "b", "x", "c", ""}
	g := build("b a", act("x", "i\x00i\x01c", "a", "b"))
	seen := map[api.Errno]int{}
	for count := range 4 {
		ways := 1
		for range count {
			ways *= 2 * len(names)
		}
		for n := range ways {
			sources := []api.Source{}
			for range count {
				sources = append(sources, src(names[n%5], text(n/5%2*513)))
				n /= 10
			}
			_, _, e := checkBuild(t, g, sources...)
			seen[e]++
		}
	}
	// Two orders of a and b, with neither too long; three more ways of each with one or both so.
	if seen[0] != 2 || seen[api.ErrWide] != 6 || seen[api.ErrTwice] == 0 || seen[api.ErrMiss] == 0 {
		t.Error(seen)
	}
}

// P9.1: codes and inputs at random, codes of failures among them.
func TestMakeModel(t *testing.T) {
	r := rand.New(rand.NewSource(91))
	for range 5000 {
		code := someCodes[r.Intn(len(someCodes))]
		inputs, texts, failed := []api.Result{}, []string{}, false
		for range r.Intn(6) {
			x := blob(someBlobs[r.Intn(len(someBlobs))])
			if r.Intn(6) == 0 {
				x.Code = api.Errno(r.Uint64() >> r.Intn(64))
				failed = failed || x.Code != 0
			}
			inputs = append(inputs, x)
			texts = append(texts, x.Blob)
		}
		want, _ := mill.Run(code, texts...)
		if failed {
			want = fault(api.ErrDep)
		}
		if got := Make(code, inputs...); got != want {
			t.Fatalf("%q of %v: %v, not %v", code, inputs, got, want)
		}
		if got := Key(code, inputs...); got != modelKey(code, inputs...) {
			t.Fatalf("%q of %v: the key is %x", code, inputs, got)
		}
	}
}

func FuzzCalls(f *testing.F) {
	f.Add("a", "go", "b", "!", "i\x00i\x01c", 0)
	f.Add("a", "", "a", "", "", 3)
	f.Add("b", text(513), "a", "x", "i\x00r", -1)
	f.Fuzz(func(t *testing.T, name, first, other, second, code string, n int) {
		inputs := []api.Result{blob(first), {Code: api.Errno(n), Blob: second}}
		if Key(code, inputs...) != modelKey(code, inputs...) {
			t.Fatalf("%q of %v: the key is %x", code, inputs, Key(code, inputs...))
		}
		g := build("a b", act("x", code, "a", "b"), act("y", code, "x", "a"))
		checkBuild(t, g, src(name, first), src(other, second))
		checkBuild(t, api.Graph{Sources: []string{name, other}, Actions: g.Actions}, src(other, second), src(name, first))
	})
}
