package script_test

import (
	"strconv"
	"strings"
	"testing"

	"gabion/api"
	"gabion/script"
)

// source is bytes that are taken one by one; behind their end come zeros.
type source struct{ left []byte }

func (r *source) next() int {
	if len(r.left) == 0 {
		return 0
	}
	b := r.left[0]
	r.left = r.left[1:]
	return int(b)
}

// pick is one of these.
func (r *source) pick(l ...string) string { return l[r.next()%len(l)] }

// schema is a schema's text, most often a right one.
func (r *source) schema() string {
	if r.next() < 20 {
		return r.pick("", " ", "a", "A int", "a int, a int", `a int = "x"`, "a opt(opt(opt(opt(int))))", "a int ", "9 int", `a text = "\xff"`)
	}
	return r.pick("a int", "a int", "a int", "a float", `a int, b text = "x"`, "b text", "a opt(int), c list(bool) = []", "c int", "a bytes, b bytes")
}

// row is a row's text, most often a right one, of the schemas that come most often.
func (r *source) row() string {
	n := strconv.Itoa(r.next() - 100)
	if r.next() < 20 {
		return r.pick("", " ", "01", n+",1", n+", ", "nune", "[[[[1]]]]", `"\xff"`, "'x", "~1.0", n+"\n")
	}
	return r.pick(n, n, n, n, n+`, "x"`, "~"+n, `"`+many("xyz ", r.next()%100)+`"`, "some("+n+"), [true, false]", `'\x00\xff', 'a'`, "9007199254740993")
}

// number is digits, most often a number that means something.
func (r *source) number() string {
	switch wild := r.next(); {
	case wild < 10:
		return r.pick("", "00", "01", "-1", "+1", "1000000000", "1 ", " 1", "x", "\u0661")
	case wild < 20:
		return r.pick("999999999", "1048576", "1048577", "256", "1000")
	}
	return strconv.Itoa(r.next() * r.next() / 200)
}

// value is a value's text.
func (r *source) value() string {
	b := string(mixedBytes(uint64(r.next()), r.next()%12))
	return r.pick("''", "'x'", `'\x00'`, `'\x00\x00'`, tail(b)[5:], tail(b)[5:], `"x"`, "5", "'x", "[[[[1]]]]")
}

// line is a line, most often one of the table's.
func (r *source) line() string {
	switch wild := r.next(); {
	case wild < 60:
		return "put " + r.row()
	case wild < 100:
		return "append"
	case wild < 130:
		return "open " + r.schema()
	case wild < 200:
		return r.pick("rows", "rows", "bytes", "salvage", "sync", "start", "start", "close", "drop", "close")
	case wild < 212:
		return "from " + r.number()
	case wild < 220:
		return "as " + r.schema()
	case wild < 227:
		return "change " + r.schema()
	case wild < 233:
		return "fail " + r.number() + " " + r.number()
	case wild < 236:
		return "damage " + r.number() + " " + r.number()
	case wild < 238:
		return "tail " + r.value()
	case wild < 239:
		return "new " + r.number()
	case wild < 243:
		return r.pick("new 20", "new 60", "new 100")
	}
	return r.odd()
}

// odd is a line that is most often none.
func (r *source) odd() string {
	words := []string{"append", "drop", "sync", "start", "close", "rows", "salvage", "bytes", "new", "open", "change", "put", "fail", "damage", "tail", "as", "from"}
	return r.pick("", "", "#", "# rows", "fly", r.pick(words...), r.pick(words...)+" ", r.pick(words...)+" "+r.row(), r.pick(words...)+" "+r.number()+" "+r.number(), string(mixedBytes(uint64(r.next()), r.next()%20)), longLine("put ", maxLine+r.next()%3-1, ""))
}

// lines are as many lines as there are bytes for.
func (r *source) lines() []string {
	var l []string
	for len(r.left) > 0 && len(l) < maxLines {
		l = append(l, r.line())
	}
	return l
}

// counts are how often lines were answered so.
type counts struct{ ok, errors, places, none, long, power, space int }

func (n *counts) count(answer string, e api.Errno) {
	switch {
	case e == api.ErrLine:
		n.none++
	case e == api.ErrLong:
		n.long++
	case strings.Contains(answer, " at "):
		n.places++
	case answer == "error 51":
		n.power++
	case answer == "error 52":
		n.space++
	case strings.HasPrefix(answer, "error"):
		n.errors++
	default:
		n.ok++
	}
}

// asLines asks that lines, one by one and as a script, tell what the words say.
func asLines(t *testing.T, lines []string, n *counts) {
	t.Helper()
	p := newPair()
	var right []string
	for _, line := range lines {
		answer, e := p.line(t, line)
		n.count(answer, e)
		if e == api.OK && !strings.Contains(line, "\n") {
			right = append(right, line)
		}
	}
	p.same(t)
	asWords(t, strings.Join(lines, "\n"))
	if all := strings.Join(right, "\n"); len(all) < maxScript {
		if _, e, at := asWords(t, all+"\n"); e != api.OK {
			t.Fatalf("line %d of what was taken: %d", at, e)
		}
	}
}

// TestMixed: P23.1, P23.2: mixed lines, right ones and wrong ones.
func TestMixed(t *testing.T) {
	var n counts
	for k := range uint64(1500) {
		asLines(t, (&source{mixedBytes(k, 20+int(k)/3)}).lines(), &n)
	}
	if n.ok < 20000 || n.errors < 10000 || n.places < 2000 || n.none < 2000 || n.long < 50 || n.power < 100 || n.space < 100 {
		t.Fatalf("too few: %+v", n)
	}
}

// FuzzLines: P23.1, P23.2: lines that bytes tell.
func FuzzLines(f *testing.F) {
	for k := range uint64(30) {
		f.Add(mixedBytes(k, 40+10*int(k)))
	}
	f.Fuzz(func(t *testing.T, b []byte) {
		asLines(t, (&source{b}).lines(), &counts{})
	})
}

// FuzzRun: P23.2, P23.3: texts that the fuzzer makes up, alone and joined.
func FuzzRun(f *testing.F) {
	for k, s := range joinable {
		f.Add(s, joinable[len(joinable)-1-k])
	}
	f.Add("fly", "open a int = ")
	f.Fuzz(func(t *testing.T, first, second string) {
		begins, e, _ := asWords(t, first)
		asWords(t, second)
		for line := range strings.Lines(second) {
			newPair().line(t, strings.TrimSuffix(line, "\n"))
		}
		if all, allE, _ := asWords(t, first+"\n"+second); e == api.OK && allE == api.OK && !strings.HasPrefix(all, begins) {
			t.Fatalf("%q and %q, joined: %s, and %s", first, second, brief(all), brief(begins))
		}
	})
}

// TestEachByte: P23.1: each byte of right lines overwritten by each other one, taken out, and each one laid in.
func TestEachByte(t *testing.T) {
	taken := 0
	one := func(line string) {
		if _, e := newPair().line(t, line); e == api.OK {
			taken++
		}
	}
	for _, line := range []string{"new 10", "open a int", "change a", "put 5", "append", "drop", "sync", "start", "close", "fail 1 20", "damage 0 9", "tail 'x'", "rows", "as a int", "from 0", "salvage", "bytes"} {
		for at := range len(line) + 1 {
			for b := range 256 {
				one(line[:at] + string([]byte{byte(b)}) + line[at:])
				if at < len(line) {
					one(line[:at] + string([]byte{byte(b)}) + line[at+1:])
				}
			}
			if at < len(line) {
				one(line[:at] + line[at+1:])
			}
		}
	}
	if taken < 4000 {
		t.Fatalf("only %d lines are taken", taken)
	}
}

// TestAllShort: P23.1: all short lines of words, blanks, digits, signs.
func TestAllShort(t *testing.T) {
	pieces := []string{"new", "fail", "put", "rows", " ", "0", "1"}
	lines := []string{""}
	for at := 0; at < len(lines) && len(lines) < 7*7*7*7*7*7; at++ {
		for _, piece := range pieces {
			lines = append(lines, lines[at]+piece)
		}
	}
	d, w := script.New(), newWordDesk()
	taken := 0
	for _, line := range lines {
		got, e := d.Line(line)
		want, wantE := w.line(line)
		if got != want || e != wantE {
			t.Fatalf("%q: %s, %d, want %s, %d", line, brief(got), e, brief(want), wantE)
		}
		if e == api.OK {
			taken++
		}
	}
	if taken < 1500 {
		t.Fatalf("only %d lines are taken", taken)
	}
}
