package recipe

import (
	"encoding/hex"
	"math/rand"
	"reflect"
	"regexp"
	"strings"
	"testing"

	"apiary/api"
)

// The two kinds of lines, as the chapter has them, without regard to how many inputs there are.
var (
	sourceLine = regexp.MustCompile(`^source ([a-z0-9]{1,8})$`)
	makeLine   = regexp.MustCompile(`^make ([a-z0-9]{1,8})(?: from((?: [a-z0-9]{1,8})+))? by (-|(?:[0-9a-f]{2}){1,64})$`)
)

// modelParse is Parse, told by patterns.
func modelParse(text string) (api.Graph, int, api.Errno) {
	if len(text) > 8192 {
		return api.Graph{}, 0, api.ErrLong
	}
	g := api.Graph{}
	lines := strings.SplitAfter(text, "\n")
	for i, s := range lines {
		if s == "" && i == len(lines)-1 {
			break
		}
		if !strings.HasSuffix(s, "\n") {
			return api.Graph{}, i + 1, api.ErrForm
		}
		s = s[:len(s)-1]
		if m := sourceLine.FindStringSubmatch(s); m != nil && len(g.Actions) == 0 && len(g.Sources) < 8 {
			g.Sources = append(g.Sources, m[1])
			continue
		}
		m := makeLine.FindStringSubmatch(s)
		if m == nil || len(g.Actions) == 12 || strings.Count(m[2], " ") > 4 {
			return api.Graph{}, i + 1, api.ErrWord
		}
		code, _ := hex.DecodeString(strings.ReplaceAll(m[3], "-", ""))
		g.Actions = append(g.Actions, act(m[1], string(code), strings.Fields(m[2])...))
	}
	return g, 0, 0
}

// modelPrint is Print of a build that can be written.
func modelPrint(g api.Graph) string {
	text := ""
	for _, s := range g.Sources {
		text += "source " + s + "\n"
	}
	for _, a := range g.Actions {
		text += "make " + a.Name
		if len(a.Inputs) > 0 {
			text += " from " + strings.Join(a.Inputs, " ")
		}
		text += " by "
		if a.Code == "" {
			text += "-"
		}
		text += hex.EncodeToString([]byte(a.Code)) + "\n"
	}
	return text
}

// modelSame is Same, told by another way.
func modelSame(a, b api.Graph) bool { return reflect.DeepEqual(deep(a), deep(b)) }

// checkParse fails unless Parse answers what the model does, and what was read has just this text (P7.3).
func checkParse(t *testing.T, text string) api.Errno {
	t.Helper()
	got, n, e := Parse(text)
	want, wantN, wantE := modelParse(text)
	if !modelSame(got, want) || n != wantN || e != wantE {
		t.Fatalf("%q: %v, %d, %d, not %v, %d, %d", text, got, n, e, want, wantN, wantE)
	}
	if e != 0 {
		return e
	}
	if again, e := Print(got); again != text || e != 0 {
		t.Fatalf("%q: it is written as %q, %d", text, again, e)
	}
	return 0
}

// checkPrint fails unless a build that can be written has the model's text, and is read as it was.
func checkPrint(t *testing.T, g api.Graph) string {
	t.Helper()
	text, e := Print(g)
	if text != modelPrint(g) || e != 0 || len(text) > 8192 {
		t.Fatalf("%v: %q, %d", g, text, e)
	}
	if got, n, e := Parse(text); !modelSame(got, g) || !Same(got, g) || n != 0 || e != 0 {
		t.Fatalf("%q: %v, %d, %d", text, got, n, e)
	}
	return text
}

// P7.2 and P7.3: all lines of up to six words of some.
func TestShortLines(t *testing.T) {
	words := []string{"source", "make", "from", "by", "a", "-", "0f", ""}
	var walk func(line string, more int)
	walk = func(line string, more int) {
		checkParse(t, line+"\n")
		if more == 0 {
			return
		}
		for _, w := range words {
			walk(line+" "+w, more-1)
		}
	}
	for _, w := range words {
		walk(w, 5)
	}
}

// P7.2 and P7.3: all texts of up to five lines of some, the last one without an end, too.
func TestShortTexts(t *testing.T) {
	lines := []string{"source a", "make x by -", "make x from a by 00", "make x from a b c d e by -", "source A", ""}
	var walk func(text string, more int)
	walk = func(text string, more int) {
		checkParse(t, text)
		for _, s := range lines {
			checkParse(t, text+s)
			if more > 0 {
				walk(text+s+"\n", more-1)
			}
		}
	}
	walk("", 5)
}

// P7.2 and P7.3: a text with one byte less, one more, or another one.
func TestOneByte(t *testing.T) {
	text := "source a\nsource bc\nmake x from a bc by 6900\nmake y by -\nmake from from by a a by by ff\n"
	checkParse(t, text)
	for at := range len(text) {
		checkParse(t, text[:at])
		checkParse(t, text[at:])
		checkParse(t, text[:at]+text[at+1:])
		for c := range 256 {
			s := string([]byte{byte(c)})
			checkParse(t, text[:at]+s+text[at+1:])
			checkParse(t, text[:at]+s+text[at:])
		}
	}
}

// anyName is a name, also one that is a line's word.
func anyName(r *rand.Rand) string {
	if r.Intn(4) == 0 {
		return []string{"source", "make", "from", "by"}[r.Intn(4)]
	}
	b := make([]byte, 1+r.Intn(8))
	for i := range b {
		b[i] = "abcdefghijklmnopqrstuvwxyz0123456789"[r.Intn(36)]
	}
	return string(b)
}

// names is up to n names.
func names(r *rand.Rand, n int) []string {
	list := make([]string, r.Intn(n+1))
	for i := range list {
		list[i] = anyName(r)
	}
	return list
}

// anyGraph is a build that can be written.
func anyGraph(r *rand.Rand) api.Graph {
	g := api.Graph{Sources: names(r, 8)}
	for range r.Intn(13) {
		code := make([]byte, r.Intn(1+r.Intn(65)))
		r.Read(code)
		g.Actions = append(g.Actions, act(anyName(r), string(code), names(r, 4)...))
	}
	return g
}

// touched is a build like another one, of which something else is another.
func touched(r *rand.Rand, g api.Graph) api.Graph {
	g = deep(g)
	if len(g.Actions) == 0 || r.Intn(4) == 0 {
		g.Sources = names(r, 8)
		return g
	}
	a := &g.Actions[r.Intn(len(g.Actions))]
	switch r.Intn(3) {
	case 0:
		a.Name = anyName(r)
	case 1:
		a.Inputs = names(r, 4)
	case 2:
		a.Code = allBytes(r.Intn(256), r.Intn(65))
	}
	return g
}

// P7.1 and P7.3: builds at random are read as they were; two have one text just if they are the same.
func TestBuilds(t *testing.T) {
	r := rand.New(rand.NewSource(7))
	same, others := 0, 0
	for range 5000 {
		a := anyGraph(r)
		b := touched(r, a)
		one := checkPrint(t, a) == checkPrint(t, b)
		if Same(a, b) != one || Same(b, a) != one || modelSame(a, b) != one {
			t.Fatalf("%v, %v: %v", a, b, one)
		}
		if one {
			same++
		} else {
			others++
		}
	}
	if same < 20 || others < 1000 {
		t.Error(same, others)
	}
}

// anyLine is a line, mostly one that can be.
func anyLine(r *rand.Rand) string {
	pick := []string{"source", "make", "from", "by", "a", "b", "-", "00", "A", "", "abcdefghi"}
	switch r.Intn(30) {
	case 0:
		words := make([]string, r.Intn(9))
		for i := range words {
			words[i] = pick[r.Intn(len(pick))]
		}
		return strings.Join(words, " ")
	case 1:
		return "make x from " + strings.Join(names(r, 6), " ") + " by -"
	case 2:
		return "source a"
	}
	return strings.TrimSuffix(modelPrint(of(act(anyName(r), allBytes(r.Intn(256), r.Intn(66)), names(r, 4)...))), "\n")
}

// P7.2 and P7.3: texts at random are read as the model does, each of the answers among them.
func TestAnyTexts(t *testing.T) {
	r := rand.New(rand.NewSource(77))
	seen := map[api.Errno]int{}
	for range 10000 {
		text := strings.Repeat("source s\n", r.Intn(10))
		for range r.Intn(14) {
			text += anyLine(r) + "\n"
		}
		switch r.Intn(20) {
		case 0:
			text = text[:r.Intn(len(text)+1)]
		case 1:
			text += strings.Repeat("x", r.Intn(16000))
		}
		seen[checkParse(t, text)]++
	}
	for _, e := range []api.Errno{0, api.ErrLong, api.ErrForm, api.ErrWord} {
		if seen[e] < 50 {
			t.Errorf("the answer %d came %d times", e, seen[e])
		}
	}
}

func FuzzParse(f *testing.F) {
	for _, c := range written() {
		f.Add(c.text)
	}
	f.Add("source a")
	f.Add("make x from a b c d e by -\n")
	f.Fuzz(func(t *testing.T, text string) { checkParse(t, text) })
}

func FuzzPrint(f *testing.F) {
	f.Add("a", "x", "b", "i\x00", 1)
	f.Add("A", "x", "", "", 5)
	f.Fuzz(func(t *testing.T, source, name, input, code string, inputs int) {
		list := []string{input, source, name, input, input}[:max(0, min(inputs, 5))]
		g := api.Graph{Sources: []string{source}, Actions: []api.Action{act(name, code, list...)}}
		can := len(code) <= 64 && len(list) <= 4
		for _, s := range append([]string{source, name}, list...) {
			can = can && sourceLine.MatchString("source "+s)
		}
		if can {
			checkPrint(t, g)
			return
		}
		if text, e := Print(g); text != "" || e != api.ErrArg {
			t.Fatalf("%v: %q, %d", g, text, e)
		}
	})
}
