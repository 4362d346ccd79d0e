package mill

import (
	"crypto/sha256"
	"math/rand"
	"strconv"
	"strings"
	"testing"

	"apiary/api"
)

// op is a row of the chapter's table: how many bytes stand behind the first one (those of 'p' aside), how many things it takes from the stack, and what it puts there in their place.
type op struct {
	behind, takes int
	puts          func(n int, taken []string) []string
}

func one(s string) []string { return []string{s} }

// ops is the chapter's table; 'i', 'p' and the jumps are told in modelStep.
func ops() map[byte]op {
	nothing := func(int, []string) []string { return nil }
	return map[byte]op{
		'i': {1, 0, nil},
		'p': {1, 0, nil},
		'c': {0, 2, func(_ int, t []string) []string { return one(t[0] + t[1]) }},
		'd': {0, 1, func(_ int, t []string) []string { return []string{t[0], t[0]} }},
		's': {0, 2, func(_ int, t []string) []string { return []string{t[1], t[0]} }},
		'x': {0, 1, nothing},
		'r': {0, 1, func(_ int, t []string) []string {
			s := ""
			for i := range len(t[0]) {
				s = t[0][i:i+1] + s
			}
			return one(s)
		}},
		'h': {0, 1, func(_ int, t []string) []string {
			d := sha256.Sum256([]byte(t[0]))
			return one(string(d[:]))
		}},
		'l': {0, 1, func(_ int, t []string) []string { return one(strconv.Itoa(len(t[0]))) }},
		't': {1, 1, func(n int, t []string) []string {
			if len(t[0]) < n {
				return one(t[0])
			}
			return one(t[0][:n])
		}},
		'k': {1, 1, func(n int, t []string) []string {
			if len(t[0]) < n {
				return one("")
			}
			return one(t[0][n:])
		}},
		'=': {0, 2, func(_ int, t []string) []string {
			if t[0] == t[1] {
				return one("\x31")
			}
			return one("")
		}},
		'j': {1, 1, nothing},
		'g': {1, 0, nothing},
	}
}

// table is made once, since many codes are run.
var table = ops()

// cut is the bytes of the step at a place; false if there is none.
func cut(code string, at int) (string, bool) {
	if at >= len(code) {
		return "", false
	}
	row, ok := table[code[at]]
	end := at + 1 + row.behind
	if !ok || end > len(code) {
		return "", false
	}
	if code[at] == 'p' {
		end += int(code[at+1])
	}
	if end > len(code) {
		return "", false
	}
	return code[at:end], true
}

// modelStep is the stack behind a step, and whether a jump is taken; or an error.
func modelStep(row op, step string, stack, inputs []string) ([]string, bool, api.Errno) {
	n := 0
	if row.behind == 1 {
		n = int(step[1])
	}
	if step[0] == 'i' && n >= len(inputs) {
		return nil, false, api.ErrOp
	}
	if len(stack) < row.takes {
		return nil, false, api.ErrStack
	}
	left, taken := stack[:len(stack)-row.takes], stack[len(stack)-row.takes:]
	var put []string
	switch step[0] {
	case 'i':
		put = one(inputs[n])
	case 'p':
		put = one(step[2:])
	default:
		put = row.puts(n, taken)
	}
	after := append(append([]string{}, left...), put...)
	if len(after) > 8 {
		return nil, false, api.ErrStack
	}
	for _, s := range after {
		if len(s) > 512 {
			return nil, false, api.ErrWide
		}
	}
	jumps := step[0] == 'g' || step[0] == 'j' && taken[0] == ""
	return after, jumps, 0
}

// modelRun is Run, told as the promise's four rows stand.
func modelRun(code string, inputs ...string) (api.Result, int) {
	tooLong := len(code) > 64 || len(inputs) > 4
	for _, s := range inputs {
		tooLong = tooLong || len(s) > 512
	}
	if tooLong {
		return api.Result{Code: api.ErrLong}, 0
	}
	place, stack := 0, []string{}
	for done := 0; ; done++ {
		if place == len(code) && len(stack) == 0 {
			return api.Result{Code: api.ErrStack}, done
		}
		if place == len(code) {
			return api.Result{Blob: stack[len(stack)-1]}, done
		}
		step, ok := cut(code, place)
		if !ok {
			return api.Result{Code: api.ErrOp}, done
		}
		if done == 300 {
			return api.Result{Code: api.ErrFuel}, done
		}
		after, jumps, e := modelStep(table[step[0]], step, stack, inputs)
		if e != 0 {
			return api.Result{Code: e}, done + 1
		}
		stack = after
		place += len(step)
		if jumps {
			place = int(step[1])
		}
	}
}

// modelSteps is Steps, told the long way.
func modelSteps(code string) ([]string, api.Errno) {
	if len(code) > 64 {
		return nil, api.ErrLong
	}
	list := []string{}
	for at := 0; at < len(code); {
		step, ok := cut(code, at)
		if !ok {
			return nil, api.ErrOp
		}
		list = append(list, step)
		at += len(step)
	}
	return list, 0
}

// checkModel fails unless Run answers what the model does, twice, and within the bounds of P6.3.
func checkModel(t *testing.T, code string, inputs ...string) api.Errno {
	t.Helper()
	want, steps := modelRun(code, inputs...)
	for range 2 {
		got, n := Run(code, inputs...)
		if got != want || n != steps {
			t.Fatalf("%q of %q: %q, %d in %d steps, not %q, %d in %d", code, inputs, got.Blob, got.Code, n, want.Blob, want.Code, steps)
		}
		if n < 0 || n > 300 || len(got.Blob) > 512 || got.Code != 0 && got.Blob != "" {
			t.Fatalf("%q of %q: %v in %d steps", code, inputs, got, n)
		}
	}
	return want.Code
}

// P6.1: all codes of up to four bytes, of those of the table and some others.
func TestShortCodes(t *testing.T) {
	const alphabet = "ipcdsxrhltk=jg\x00\x01\x02\x04z"
	var walk func(code string, more int)
	walk = func(code string, more int) {
		checkModel(t, code, "ab", "")
		checkSteps(t, code)
		if more == 0 {
			return
		}
		for i := range len(alphabet) {
			walk(code+alphabet[i:i+1], more-1)
		}
	}
	walk("", 4)
}

// P6.1 and P6.2: each pair of bytes, alone and with something on the stack.
func TestBytePairs(t *testing.T) {
	for a := range 256 {
		for b := range 256 {
			pair := string([]byte{byte(a), byte(b)})
			checkModel(t, pair, "ab")
			checkModel(t, "i\x00d"+pair, "abcdef")
			checkSteps(t, pair)
			checkSteps(t, "c"+pair+"xx")
		}
	}
}

// anyStep is a step, mostly one that can be done.
func anyStep(r *rand.Rand) string {
	n := string([]byte{byte(r.Intn(4))})
	switch r.Intn(12) {
	case 0, 1, 2:
		return "i" + n
	case 3:
		size := r.Intn(6)
		return "p" + string([]byte{byte(size)}) + strings.Repeat("q", size)
	case 4, 5:
		return "d"
	case 6, 7:
		return "c"
	case 8:
		return string("tk"[r.Intn(2)]) + string([]byte{byte(r.Intn(1 << r.Intn(9)))})
	case 9:
		return string("jg"[r.Intn(2)]) + string([]byte{byte(r.Intn(66))})
	case 10:
		return string([]byte{byte(r.Intn(256))})
	}
	return string("sxrhl=d"[r.Intn(7)])
}

// P6.1 and P6.3: codes at random come to what the model says, each of the errors among them.
func TestModel(t *testing.T) {
	r := rand.New(rand.NewSource(6))
	seen := map[api.Errno]int{}
	for range 60000 {
		code := ""
		for range r.Intn(40) {
			code += anyStep(r)
		}
		code = code[:min(len(code), r.Intn(66))]
		inputs := []string{text(r.Intn(20)), text(r.Intn(513)), text(512), ""}[:r.Intn(5)]
		seen[checkModel(t, code, inputs...)]++
		checkSteps(t, code)
	}
	for _, e := range []api.Errno{0, api.ErrLong, api.ErrFuel, api.ErrStack, api.ErrOp, api.ErrWide} {
		if seen[e] < 20 {
			t.Errorf("the answer %d came %d times", e, seen[e])
		}
	}
}

func FuzzRun(f *testing.F) {
	f.Add("i\x00i\x01c", "ab", "cd")
	f.Add("g\x00", "", "")
	f.Add("p\x01ac\x00", text(513), "x")
	f.Fuzz(func(t *testing.T, code, a, b string) {
		checkModel(t, code, a, b)
		checkModel(t, code, a, b, b, a)
		checkModel(t, code, a, b, b, a, a)
		checkSteps(t, code)
	})
}
