package oven

import (
	"encoding/hex"
	"fmt"
	"math"
	"reflect"
	"slices"
	"strings"
	"testing"

	"apiary/api"
)

// act is an action.
func act(name, code string, inputs ...string) api.Action {
	return api.Action{Named: api.Named{Name: name}, Inputs: inputs, Code: code}
}

// src is a source with its blob.
func src(name, blob string) api.Source {
	return api.Source{Named: api.Named{Name: name}, Blob: blob}
}

// build is a build of sources, told as words, and actions.
func build(sources string, actions ...api.Action) api.Graph {
	return api.Graph{Sources: strings.Fields(sources), Actions: actions}
}

// blob and fault are results.
func blob(s string) api.Result { return api.Result{Blob: s} }

func fault(e api.Errno) api.Result { return api.Result{Code: e} }

// text is a text of n bytes.
func text(n int) string { return strings.Repeat("0123456789", n/10+1)[:n] }

// bytes is what digits of base 16 tell, blanks aside.
func bytes(t *testing.T, digits string) string {
	t.Helper()
	b, err := hex.DecodeString(strings.ReplaceAll(digits, " ", ""))
	if err != nil {
		t.Fatal(err)
	}
	return string(b)
}

// P9.1: a key is the digest of just these bytes.
func TestKey(t *testing.T) {
	const action = "01 06 61 63 74 69 6f 6e"
	const ofEmpty = "01 21 64 e3b0c44298fc1c149afbf4c8996fb92427ae41e4649b934ca495991b7852b855"
	const ofABC = "01 21 64 ba7816bf8f01cfea414140de5dae2223b00361a396177a9cb410ff61f20015ad"
	for _, c := range []struct {
		code   string
		inputs []api.Result
		want   string
	}{
		{"", nil, "01 02" + action + "00"},
		{"", []api.Result{}, "01 02" + action + "00"},
		{"c", nil, "01 02" + action + "01 01 63"},
		{"", []api.Result{blob("")}, "01 03" + action + "00" + ofEmpty},
		{"i\x00r", []api.Result{blob("abc")}, "01 03" + action + "01 03 69 00 72" + ofABC},
		{"c", []api.Result{blob("abc"), blob("")}, "01 04" + action + "01 01 63" + ofABC + ofEmpty},
		{"c", []api.Result{blob(""), blob("abc")}, "01 04" + action + "01 01 63" + ofEmpty + ofABC},
		{"c", []api.Result{fault(api.ErrStack)}, "01 03" + action + "01 01 63 01 03 65 01 1f"},
		{"c", []api.Result{{Code: api.ErrDep, Blob: "abc"}}, "01 03" + action + "01 01 63 01 03 65 01 22"},
		{"c", []api.Result{fault(300)}, "01 03" + action + "01 01 63 01 04 65 02 01 2c"},
		{"c", []api.Result{fault(-1)}, "01 03" + action + "01 01 63 01 02 65 80"},
		{"c", []api.Result{{Code: -2, Blob: ""}}, "01 03" + action + "01 01 63 01 03 65 81 01"},
		{"c", []api.Result{fault(math.MaxInt)}, "01 03" + action + "01 01 63 01 0a 65 08 7fffffffffffffff"},
		{"c", []api.Result{fault(math.MinInt)}, "01 03" + action + "01 01 63 01 0a 65 88 7fffffffffffffff"},
		{"c", []api.Result{fault(3), blob("abc"), fault(3), blob("abc"), blob("")}, "01 07" + action + "01 01 63 01 03 65 01 03" + ofABC + "01 03 65 01 03" + ofABC + ofEmpty},
	} {
		if got, want := Key(c.code, c.inputs...), sum(bytes(t, c.want)); got != want {
			t.Errorf("%q of %v: %x, not %x", c.code, c.inputs, got, want)
		}
	}
}

// P9.1: nothing of a code or its inputs can be another one without another key, what a failure has beside its Code aside.
func TestKeysApart(t *testing.T) {
	digest := func(s string) string {
		d := sum(s)
		return string(d[:])
	}
	keys := map[api.Digest]string{}
	for _, code := range []string{"", "c", "i\x00", "action", "d", "e\x01\x03", text(64), text(65), text(1 << 16)} {
		for i, inputs := range [][]api.Result{
			nil, {blob("")}, {blob("c")}, {blob("c"), blob("")}, {blob(""), blob("c")}, {blob(""), blob("")}, {blob("\x01\x03")},
			{fault(3)}, {fault(-3)}, {fault(3), blob("")}, {blob(""), fault(3)}, {fault(3), fault(3)}, {blob("e\x01\x03")}, {blob("d")},
			{blob(digest(""))}, {blob("d" + digest(""))}, {blob(text(512))}, {blob(text(513))}, make([]api.Result, 5), make([]api.Result, 300),
		} {
			name := fmt.Sprintf("%.20q of the inputs %d", code, i)
			key := Key(code, inputs...)
			if other, ok := keys[key]; ok {
				t.Errorf("%s has the key of %s", name, other)
			}
			keys[key] = name
		}
	}
	if Key("c", api.Result{Code: 9, Blob: "x"}) != Key("c", api.Result{Code: 9}) {
		t.Error("a failure's blob is in the key")
	}
}

// P9.1: what an action comes to.
func TestMake(t *testing.T) {
	both := api.Result{Code: 7, Blob: "ab"}
	for _, c := range []struct {
		code   string
		inputs []api.Result
		want   api.Result
	}{
		{"i\x00r", []api.Result{blob("go")}, blob("og")},
		{"i\x00i\x01c", []api.Result{blob("ab"), blob("cd")}, blob("abcd")},
		{"i\x01i\x00c", []api.Result{blob("ab"), blob("cd")}, blob("cdab")},
		{"i\x03i\x02i\x01i\x00ccc", []api.Result{blob("a"), blob("b"), blob("c"), blob("d")}, blob("dcba")},
		{"i\x00", []api.Result{blob("")}, blob("")},
		{"i\x00", []api.Result{blob(text(512))}, blob(text(512))},
		{"p\x01x", nil, blob("x")},
		{"p\x01x", []api.Result{}, blob("x")},
		{"", nil, fault(api.ErrStack)},
		{"c", []api.Result{blob("a"), blob("b")}, fault(api.ErrStack)},
		{"i\x01", []api.Result{blob("a")}, fault(api.ErrOp)},
		{"?", nil, fault(api.ErrOp)},
		{"g\x00", nil, fault(api.ErrFuel)},
		{"i\x00i\x01c", []api.Result{blob(text(512)), blob("a")}, fault(api.ErrWide)},
		{text(65), nil, fault(api.ErrLong)},
		{"i\x00", []api.Result{blob(text(513))}, fault(api.ErrLong)},
		{"p\x01x", []api.Result{blob(text(513))}, fault(api.ErrLong)},
		{"p\x01x", make([]api.Result, 4), blob("x")},
		{"p\x01x", make([]api.Result, 5), fault(api.ErrLong)},
		{"p\x01x", []api.Result{fault(api.ErrStack)}, fault(api.ErrDep)},
		{"p\x01x", []api.Result{fault(api.ErrDep)}, fault(api.ErrDep)},
		{"p\x01x", []api.Result{both}, fault(api.ErrDep)},
		{"i\x00", []api.Result{blob("a"), both}, fault(api.ErrDep)},
		{"i\x00", []api.Result{both, blob("a")}, fault(api.ErrDep)},
		{"i\x00", []api.Result{blob("a"), blob("b"), blob("c"), fault(-1)}, fault(api.ErrDep)},
		{"i\x00", []api.Result{fault(math.MinInt)}, fault(api.ErrDep)},
		{"i\x00", []api.Result{fault(math.MaxInt)}, fault(api.ErrDep)},
		{text(65), []api.Result{fault(1)}, fault(api.ErrDep)},
		{"c", []api.Result{fault(1), blob(text(513))}, fault(api.ErrDep)},
		{"c", append(make([]api.Result, 5), fault(1)), fault(api.ErrDep)},
		{"c", append(make([]api.Result, 1<<16), fault(1)), fault(api.ErrDep)},
	} {
		if got := Make(c.code, c.inputs...); got != c.want {
			t.Errorf("%.20q of %.100v: %d, %q, not %d, %q", c.code, c.inputs, got.Code, got.Blob, c.want.Code, c.want.Blob)
		}
	}
}

// P9.1: records, and what fits them.
func TestRecord(t *testing.T) {
	key, other := sum("key"), sum("other")
	for _, c := range []struct {
		r    api.Result
		want api.Record
	}{
		{blob("go"), api.Record{Key: key, Out: sum("go")}},
		{blob(""), api.Record{Key: key, Out: sum("")}},
		{blob(text(512)), api.Record{Key: key, Out: sum(text(512))}},
		{blob(text(5000)), api.Record{Key: key, Out: sum(text(5000))}},
		{fault(api.ErrDep), api.Record{Key: key, Code: api.ErrDep}},
		{api.Result{Code: 9, Blob: "go"}, api.Record{Key: key, Code: 9}},
		{api.Result{Code: -9, Blob: "go"}, api.Record{Key: key, Code: -9}},
		{fault(math.MinInt), api.Record{Key: key, Code: math.MinInt}},
		{fault(math.MaxInt), api.Record{Key: key, Code: math.MaxInt}},
	} {
		got := Record(key, c.r)
		if got != c.want {
			t.Errorf("%.100v: %v, not %v", c.r, got, c.want)
		}
		if zero := Record(api.Digest{}, c.r); zero.Key != (api.Digest{}) || zero.Code != got.Code || zero.Out != got.Out {
			t.Errorf("%.100v: %v of the zero key", c.r, zero)
		}
		for _, x := range []api.Record{c.want, {Key: other, Code: c.want.Code, Out: c.want.Out}, {Code: c.want.Code, Out: c.want.Out}} {
			if !Fits(x, c.r) {
				t.Errorf("%.100v doesn't fit %v", c.r, x)
			}
		}
		turned := c.want
		turned.Out[31] ^= 1
		for _, x := range []api.Record{turned, {Key: key, Code: c.want.Code + 1, Out: c.want.Out}, {Key: key, Code: c.want.Code, Out: other}, {}} {
			if Fits(x, c.r) {
				t.Errorf("%.100v fits %v", c.r, x)
			}
		}
	}
}

// P9.1: a record with a Code and an Out is nobody's; one with neither is no blob's.
func TestFitsNone(t *testing.T) {
	for _, r := range []api.Result{blob("go"), fault(9), {Code: 9, Blob: "go"}, blob("")} {
		if Fits(api.Record{Code: 9, Out: sum("go")}, r) || Fits(api.Record{}, r) || Fits(api.Record{Code: 9, Out: sum("")}, r) {
			t.Errorf("%v fits", r)
		}
	}
	if Fits(api.Record{Out: sum("go")}, blob("og")) || Fits(api.Record{Out: sum("go")}, api.Result{Code: 9, Blob: "go"}) || Fits(api.Record{Code: 9}, blob("go")) {
		t.Error("another result fits")
	}
}

// made is a build with sources, and what its actions come to, each told by its name, an equals sign, and a blob in quotes or a code.
type made struct {
	g       api.Graph
	sources []api.Source
	want    string
}

// tell is results as the table tells them.
func tell(list []api.Built) string {
	words := []string{}
	for _, b := range list {
		if b.Code != 0 {
			words = append(words, fmt.Sprintf("%s=%d", b.Name, b.Code))
			if b.Blob != "" {
				words = append(words, "with a blob")
			}
		} else {
			words = append(words, fmt.Sprintf("%s=%q", b.Name, b.Blob))
		}
	}
	return strings.Join(words, " ")
}

// chain is a build of n actions, each of which puts its letter behind what the next one comes to, the last one behind the source s.
func chain(n int) api.Graph {
	g := build("s")
	for i := range n {
		below := fmt.Sprint("c", i+1)
		if i == n-1 {
			below = "s"
		}
		g.Actions = append(g.Actions, act(fmt.Sprint("c", i), "i\x00p\x01"+string(rune('a'+i))+"c", below))
	}
	return g
}

// P9.2: what builds come to.
func TestBuild(t *testing.T) {
	join := "i\x00i\x01c"
	for _, c := range []made{
		{api.Graph{}, nil, ""},
		{build("a b"), []api.Source{src("b", "1"), src("a", "2")}, ""},
		{build("", act("x", "p\x02hi")), nil, `x="hi"`},
		{build("a", act("x", "i\x00r", "a")), []api.Source{src("a", "go")}, `x="og"`},
		{build("a", act("x", join, "a", "a")), []api.Source{src("a", "go")}, `x="gogo"`},
		{build("a b", act("x", join, "a", "b")), []api.Source{src("a", "1"), src("b", "2")}, `x="12"`},
		{build("a b", act("x", join, "a", "b")), []api.Source{src("b", "2"), src("a", "1")}, `x="12"`},
		{build("a b", act("x", join, "b", "a")), []api.Source{src("a", "1"), src("b", "2")}, `x="21"`},
		{build("a", act("y", "i\x00r", "x"), act("x", "i\x00p\x01!c", "a")), []api.Source{src("a", "go")}, `y="!og" x="go!"`},
		{build("a", act("z", join, "y", "x"), act("y", join, "x", "a"), act("x", "i\x00r", "a")), []api.Source{src("a", "go")}, `z="oggoog" y="oggo" x="og"`},
		{build("a", act("x", "i\x00", "a")), []api.Source{src("a", "")}, `x=""`},
		{build("a", act("x", "c", "a"), act("y", "i\x00", "x"), act("z", "p\x01z", "y"), act("w", "i\x00", "a")), []api.Source{src("a", "go")}, `x=31 y=34 z=34 w="go"`},
		{build("a", act("z", "p\x01z", "a", "y"), act("y", "?", "a")), []api.Source{src("a", "go")}, `z=34 y=32`},
		{build("a", act("x", "g\x00", "a"), act("y", "i\x01", "a"), act("z", "p\x01zdcdcdcdcdcdcdcdcdcdc", "a"), act("w", "", "a")), []api.Source{src("a", "")}, `x=30 y=32 z=33 w=31`},
		{build("a", act("x", "", "a"), act("y", "", "x"), act("z", "", "x", "y", "a")), []api.Source{src("a", "")}, `x=31 y=34 z=34`},
		{chain(3), []api.Source{src("s", "-")}, `c0="-cba" c1="-cb" c2="-c"`},
	} {
		list, e := Build(c.g, c.sources...)
		if got := tell(list); e != 0 || got != c.want {
			t.Errorf("%v of %v: %s, %d, not %s", c.g, c.sources, got, e, c.want)
		}
	}
	list, e := Build(chain(12), src("s", text(500)))
	if e != 0 || len(list) != 12 || list[0].Result != blob(text(500)+"lkjihgfedcba") {
		t.Error("twelve actions:", tell(list), e)
	}
	list, e = Build(chain(12), src("s", text(510)))
	if e != 0 || len(list) != 12 || list[10].Result != blob(text(510)+"lk") || list[9].Result != fault(api.ErrWide) || list[8].Result != fault(api.ErrDep) || list[0].Result != fault(api.ErrDep) {
		t.Error("twelve actions, a blob that gets too long:", tell(list), e)
	}
}

// P9.2: the keys of actions, by the results of what they stand on.
func TestKeys(t *testing.T) {
	g := build("a b", act("out", "i\x00i\x01c", "mid", "b"), act("mid", "i\x00r", "a"), act("bad", "c", "a"), act("worse", "i\x00", "b", "bad"), act("worst", "i\x00", "worse"), act("lone", "p\x01x"), act("again", "i\x00r", "a"))
	keys, e := Keys(g, src("b", "!"), src("a", "go"))
	want := []api.Digest{
		Key("i\x00i\x01c", blob("og"), blob("!")), Key("i\x00r", blob("go")), Key("c", blob("go")), {}, {}, Key("p\x01x"), Key("i\x00r", blob("go")),
	}
	if e != 0 || !slices.Equal(keys, want) {
		t.Errorf("%x, %d, not %x", keys, e, want)
	}
	for _, g := range []api.Graph{{}, build("a b")} {
		var sources []api.Source
		for _, s := range g.Sources {
			sources = append(sources, src(s, ""))
		}
		if keys, e := Keys(g, sources...); e != 0 || len(keys) != 0 {
			t.Error(g, keys, e)
		}
	}
}

// fails fails unless both calls answer just this error.
func fails(t *testing.T, want api.Errno, g api.Graph, sources ...api.Source) {
	t.Helper()
	list, e := Build(g, sources...)
	keys, f := Keys(g, sources...)
	if e != want || f != want || len(list) != 0 || len(keys) != 0 {
		t.Errorf("%.200s of %.200s: %d and %d, %v, %x, not %d", fmt.Sprint(g), fmt.Sprint(sources), e, f, list, keys, want)
	}
}

// P9.2: builds that can't be, sources that aren't the build's.
func TestErrors(t *testing.T) {
	g := build("a b", act("x", "i\x00r", "a"))
	a, b, wide := src("a", "1"), src("b", "2"), text(513)
	fails(t, api.ErrTwice, g, a, a)
	fails(t, api.ErrTwice, g, a, b, a)
	fails(t, api.ErrTwice, g, b, a, src("a", "other"))
	fails(t, api.ErrTwice, g, src("c", ""), src("c", ""))
	fails(t, api.ErrTwice, g, src("", ""), a, b, src("", ""))
	fails(t, api.ErrTwice, api.Graph{}, a, a)
	fails(t, api.ErrTwice, g, make([]api.Source, 1<<17)...)
	fails(t, api.ErrMiss, g)
	fails(t, api.ErrMiss, g, a)
	fails(t, api.ErrMiss, g, b)
	fails(t, api.ErrMiss, g, a, src("c", ""))
	fails(t, api.ErrMiss, g, a, src("B", ""))
	fails(t, api.ErrMiss, g, a, src("b ", ""))
	fails(t, api.ErrMiss, g, a, b, src("c", ""))
	fails(t, api.ErrMiss, g, src("c", ""), a, b)
	fails(t, api.ErrMiss, g, a, b, src("", ""))
	fails(t, api.ErrMiss, g, a, b, src("x", ""))
	fails(t, api.ErrMiss, g, a, src("x", ""))
	fails(t, api.ErrMiss, g, src(wide, ""), src("\xff", ""))
	fails(t, api.ErrMiss, api.Graph{}, a)
	fails(t, api.ErrMiss, build("", act("x", "p\x01x")), src("x", "x"))
	many := []api.Source{}
	for i := range 1 << 16 {
		many = append(many, src(fmt.Sprint(i), ""))
	}
	fails(t, api.ErrMiss, g, many...)
	fails(t, api.ErrTwice, g, append(many, many[77])...)
	fails(t, api.ErrWide, g, a, src("b", wide))
	fails(t, api.ErrWide, g, src("a", wide), b)
	fails(t, api.ErrWide, g, src("b", text(1<<16)), a)
	fails(t, api.ErrWide, build("a"), src("a", wide))
	if list, e := Build(g, src("a", text(512)), src("b", text(512))); e != 0 || len(list) != 1 || len(list[0].Blob) != 512 {
		t.Error("blobs of 512 bytes:", list, e)
	}
}

// P9.2: of the errors that apply the one that is named first.
func TestFirstError(t *testing.T) {
	wide := text(513)
	twice := []api.Source{src("a", wide), src("a", wide), src("c", wide)}
	miss := []api.Source{src("c", wide), src("b", wide)}
	fails(t, api.ErrTwice, build("a b"), twice...)
	fails(t, api.ErrTwice, build("a b c"), twice...)
	fails(t, api.ErrMiss, build("a b"), miss...)
	for _, c := range []struct {
		g api.Graph
		e api.Errno
	}{
		{build("A"), api.ErrArg},
		{build("a b c d e f g h i"), api.ErrArg},
		{build("a", act("x", text(65), "a")), api.ErrArg},
		{build("a a"), api.ErrTwice},
		{build("a", act("a", "")), api.ErrTwice},
		{build("a", act("x", "", "b")), api.ErrMiss},
		{build("a", act("x", "", "x")), api.ErrRing},
		{build("a", act("x", "", "y"), act("y", "", "x")), api.ErrRing},
	} {
		for _, sources := range [][]api.Source{nil, {src("a", "")}, twice, miss, {src("a", wide)}} {
			fails(t, c.e, c.g, sources...)
		}
	}
}

// P9.3: names, places and other actions change nothing of what an action comes to, nor its key.
func TestResultAlone(t *testing.T) {
	code := "i\x00i\x01ch"
	first := build("a b", act("x", code, "a", "b"))
	second := build("q p r", act("w", "?", "z"), act("y", code, "z", "p"), act("z", "i\x00r", "q"))
	list, e := Build(first, src("a", "go"), src("b", "!"))
	more, f := Build(second, src("r", "any"), src("p", "!"), src("q", "og"))
	keys, _ := Keys(first, src("a", "go"), src("b", "!"))
	others, _ := Keys(second, src("r", "any"), src("p", "!"), src("q", "og"))
	if e != 0 || f != 0 || list[0].Result != more[1].Result || keys[0] != others[1] || keys[0] == others[2] || list[0].Code != 0 {
		t.Error(list, more, keys, others)
	}
}

// Rule 3: what is handed in stays as it is, its spare room too.
func TestHandedIn(t *testing.T) {
	names := []string{"b", "a", "spare", "room"}
	inputs := []string{"y", "b", "a", "spare", "room"}
	actions := []api.Action{act("x", "i\x00i\x01i\x02cc", inputs[:3]...), act("y", "i\x00r", inputs[1:2]...), act("spare", "", "none")}
	sources := []api.Source{src("a", "go"), src("b", "ab"), src("spare", "room")}
	results := []api.Result{blob("x"), blob("y"), fault(9)}
	g := api.Graph{Sources: names[:2], Actions: actions[:2]}
	list, e := Build(g, sources[:2]...)
	keys, f := Keys(g, sources[:2]...)
	if e != 0 || f != 0 || tell(list) != `x="baabgo" y="ba"` || len(keys) != 2 {
		t.Error(list, e, keys, f)
	}
	Key("c", results[:2]...)
	if r := Make("i\x00i\x01c", results[:2]...); r != blob("xy") {
		t.Error(r)
	}
	wantActions := []api.Action{act("x", "i\x00i\x01i\x02cc", "y", "b", "a"), act("y", "i\x00r", "b"), act("spare", "", "none")}
	if !reflect.DeepEqual(actions, wantActions) || fmt.Sprint(names, inputs) != "[b a spare room] [y b a spare room]" {
		t.Error(actions, names, inputs)
	}
	if !slices.Equal(sources, []api.Source{src("a", "go"), src("b", "ab"), src("spare", "room")}) || !slices.Equal(results, []api.Result{blob("x"), blob("y"), fault(9)}) {
		t.Error(sources, results)
	}
}

// Rules 3 and 4: an answer is new memory each time, and nothing is kept from call to call.
func TestNewMemory(t *testing.T) {
	g := chain(3)
	first, _ := Keys(g, src("s", "-"))
	want := slices.Clone(first)
	for range 3 {
		list, e := Build(g, src("s", "-"))
		keys, f := Keys(g, src("s", "-"))
		if e != 0 || f != 0 || tell(list) != `c0="-cba" c1="-cb" c2="-c"` || !slices.Equal(keys, want) {
			t.Fatal(list, e, keys, f)
		}
		for i := range list[:cap(list)] {
			list[:cap(list)][i] = api.Built{Result: fault(77)}
		}
		for i := range keys[:cap(keys)] {
			keys[:cap(keys)][i] = api.Digest{77}
		}
		Build(g, src("s", "+"))
		Build(g)
		Keys(g, src("s", "+"))
		if !reflect.DeepEqual(g, chain(3)) {
			t.Fatal("the build was changed:", g)
		}
	}
}

// The chapter's example.
func TestExample(t *testing.T) {
	g := build("a", act("x", "i\x00r", "a"), act("y", "c", "x"), act("z", "i\x00", "y"))
	list, e := Build(g, src("a", "go"))
	if e != 0 || !slices.Equal(list, []api.Built{{Named: api.Named{Name: "x"}, Result: blob("og")}, {Named: api.Named{Name: "y"}, Result: fault(api.ErrStack)}, {Named: api.Named{Name: "z"}, Result: fault(api.ErrDep)}}) {
		t.Error(list, e)
	}
}
