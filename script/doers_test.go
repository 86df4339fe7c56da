package script_test

import (
	"strconv"
	"strings"
	"testing"
)

// wrongSchema is a text that is no schema, and what is told of it.
type wrongSchema struct{ text, answer string }

// wrongSchemas have each error of ParseSchema that fits into a line, with its place.
func wrongSchemas() []wrongSchema {
	columns := "c0 int"
	for i := 1; i < 17; i++ {
		columns += ", c" + strconv.Itoa(i) + " int"
	}
	return []wrongSchema{
		{"A int", "error 5 at 0"}, {"a", "error 5 at 1"}, {"a Int", "error 5 at 2"}, {"a int, ", "error 5 at 7"}, {"a int,b int", "error 5 at 6"}, {"a int = ", "error 5 at 8"}, {"a int = 01", "error 5 at 8"}, {"a opt(", "error 5 at 6"}, {`a text = "x`, "error 5 at 11"},
		{"a opt(opt(opt(opt(int))))", "error 62 at 18"}, {"b int = [[[[1]]]]", "error 62 at 12"},
		{"9a int", "error 70 at 0"}, {"a2345678901234567 int", "error 70 at 0"}, {"a int, _ int", "error 70 at 0"},
		{"a int, a int", "error 71 at 0"}, {`a int = "x"`, "error 80 at 0"}, {"a int, b opt(int) = 1", "error 80 at 0"}, {`a text = "\xff"`, "error 61 at 0"},
		{columns, "error 3 at 0"}, {"a list(int) = [" + strings.TrimSuffix(many("1, ", 257), ", ") + "]", "error 3 at 0"},
		{"a list(float) = [" + strings.TrimSuffix(many("~1, ", 130), ", ") + "]", "error 2 at 0"},
	}
}

// TestSchemaErrors: P23.1: each error of ParseSchema is told with its place, ahead of whatever the file would say, and nothing has changed.
func TestSchemaErrors(t *testing.T) {
	for _, wrong := range wrongSchemas() {
		for _, word := range schemas {
			p := newPair().talk(t, word+" "+wrong.text, wrong.answer, "open a int", "ok", "put 1", "ok")
			p.talk(t, word+" "+wrong.text, wrong.answer, "append", "ok", word+" "+wrong.text, wrong.answer, "rows", "ok 1 0\n 0 0 1", "fail 0 0", "ok", "close", "error 51")
			p.talk(t, word+" "+wrong.text, wrong.answer, "start", "ok")
		}
	}
}

// TestOpen: P23.1: Open, and each of its errors.
func TestOpen(t *testing.T) {
	p := newPair().talk(t, "open a int", "ok", "open a int", "error 6", "open b text", "error 6", "put 1", "ok", "append", "ok", "sync", "ok", "put 2", "ok", "append", "ok", "put 3", "ok", "append", "ok")
	p.talk(t, "fail 0 0", "ok", "close", "error 51", "open a int", "error 50", "start", "ok", "open a int", "ok", "rows", "ok 1 0\n 0 0 1", "close", "ok true")
	p.talk(t, "open b text", "ok", `put "x"`, "ok", "append", "ok", "close", "ok true", "rows", "ok 2 0\n 0 0 1\n 1 1 \"x\"")

	// A repair within which power fails.
	p.talk(t, "tail 'xyz'", "ok", "fail 0 0", "ok", "open b text", "error 51", "open b text", "error 50", "start", "ok", "open b text", "ok", "rows", "ok 2 0\n 0 0 1\n 1 1 \"x\"")

	// A file that is damaged stays as it is.
	p.talk(t, "close", "ok false", "damage 1 0", "ok")
	before, _ := p.line(t, "bytes")
	p.talk(t, "open a int", "error 150", "bytes", before, "append", "error 6")
}

// TestChange: P23.1: Change, and its error; the rows that wait still do.
func TestChange(t *testing.T) {
	p := newPair().talk(t, "change a int", "error 6", "put 1", "ok", "open b text", "ok", "append", "error 80", "change a int", "ok", "append", "ok", "rows", "ok 1 0\n 0 0 1")
	p.talk(t, "change a int, b text", "ok", "bytes", p.answer(t, "bytes"), `put 2, "x"`, "ok", "append", "ok", "change a int", "ok", "put 3", "ok", "append", "ok", "rows", "ok 3 0\n 0 0 1\n 1 1 2, \"x\"\n 2 2 3")
	p.talk(t, "close", "ok true", "change a int", "error 6")
}

// answer is what a line is answered.
func (p pair) answer(t *testing.T, line string) string {
	t.Helper()
	got, _ := p.line(t, line)
	return got
}

// TestPutErrors: P23.1: each error of ParseRow that fits into a line is told with its place; no row waits then that did not.
func TestPutErrors(t *testing.T) {
	for row, want := range map[string]string{
		"01": "error 5 at 0", "1,2": "error 5 at 2", "1, ": "error 5 at 3", "1, x": "error 5 at 3", "1 ": "error 5 at 1", `"a`: "error 5 at 2", `"\x41"`: "error 5 at 1", "~1.0": "error 5 at 2", "none, ~": "error 5 at 7", "True": "error 5 at 0", "9223372036854775808": "error 5 at 0",
		"[[[[1]]]]": "error 62 at 4", "1, some([some([1])])": "error 62 at 15", `"\xff"`: "error 61 at 0", `1, "\xc3"`: "error 61 at 0",
		"[" + strings.TrimSuffix(many("1, ", 257), ", ") + "]": "error 3 at 0",
	} {
		newPair().talk(t, "open a int", "ok", "put "+row, want, "append", "error 4", "put 5", "ok", "put "+row, want, "append", "ok", "rows", "ok 1 0\n 0 0 5")
	}
}

// TestPut: P23.1: rows wait one behind the other, whether the file is open or not, whatever its schema is; each is appended once.
func TestPut(t *testing.T) {
	p := newPair().talk(t, "put 1, \"a\"", "ok", "put 2, \"b\"", "ok", "open a int, b text", "ok", "put 3, \"c\"", "ok", "append", "ok", "append", "error 4", "put 4, \"d\"", "ok", "append", "ok")
	p.talk(t, "rows", "ok 4 0\n 0 0 1, \"a\"\n 1 0 2, \"b\"\n 2 0 3, \"c\"\n 3 0 4, \"d\"")
	newPair().talk(t, "open a bool, b int, c float, d text, e bytes, f opt(text), g list(opt(int))", "ok", `put true, -7, ~x3fe0000000000000, "a\"\x0a", '\x00\'', some("x"), [none, some(1)]`, "ok", "append", "ok",
		"rows", "ok 1 0\n 0 0 true, -7, ~x3fe0000000000000, \"a\\\"\\x0a\", '\\x00\\'', some(\"x\"), [none, some(1)]")
}

// TestAppend: P23.1: each error of Append; the rows wait still, in their order, until it is OK.
func TestAppend(t *testing.T) {
	p := newPair().talk(t, "append", "error 6", "put 1", "ok", "append", "error 6", "put 2", "ok", "append", "error 6", "open a int", "ok", "append", "ok", "rows", "ok 2 0\n 0 0 1\n 1 0 2", "append", "error 4")
	p.talk(t, "put \"x\"", "ok", "append", "error 80", "put 3", "ok", "append", "error 80", "drop", "ok", "append", "error 4", "put 3", "ok", "append", "ok", "rows", "ok 3 0\n 0 0 1\n 1 0 2\n 2 0 3")

	for range 64 {
		p.talk(t, "put 7", "ok")
	}
	p.talk(t, "put 8", "ok", "append", "error 3", "append", "error 3", "rows", "ok 3 0\n 0 0 1\n 1 0 2\n 2 0 3", "drop", "ok")
	for range 64 {
		p.talk(t, "put 7", "ok")
	}
	p.talk(t, "append", "ok", "append", "error 4", "from 66", "ok 1 0\n 66 0 7")

	// A row that is too long, rows that are so together.
	p = newPair().talk(t, "open a text, b list(float)", "ok", `put "", [`+strings.TrimSuffix(many("~1, ", 128), ", ")+"]", "ok", "append", "error 2", "drop", "ok")
	for range 3 {
		p.talk(t, `put "`+many("x", 1000)+`", []`, "ok")
	}
	p.talk(t, "append", "error 2", "rows", "ok 0 0", "drop", "ok", "put \"\", []", "ok", "append", "ok", "rows", "ok 1 0\n 0 0 \"\", []")
}

// TestAppendNoSpace: P23.1: beyond the quota the file stays open, and the rows wait; behind power that failed it doesn't, and they wait, too.
func TestAppendNoSpace(t *testing.T) {
	p := newPair().talk(t, "new 40", "ok", "open a text", "ok", `put "x"`, "ok", "append", "ok")
	before := p.answer(t, "bytes")
	p.talk(t, `put "`+many("abcdefg ", 8)+`"`, "ok", "append", "error 52", "bytes", before, "append", "error 52", "sync", "ok", "drop", "ok", "append", "error 4")

	p = newPair().talk(t, "open a int", "ok", "put 1", "ok", "append", "ok", "sync", "ok", "put 2", "ok", "fail 3 0", "ok", "append", "error 51", "append", "error 6", "rows", "ok 0 50", "start", "ok", "append", "error 6")
	p.talk(t, "rows", "ok 1 0\n 0 0 1", "open a int", "ok", "append", "ok", "append", "error 4", "rows", "ok 2 0\n 0 0 1\n 1 0 2")
}

// TestDrop: P23.1: no rows wait any more; nothing else has changed.
func TestDrop(t *testing.T) {
	p := newPair().talk(t, "drop", "ok", "drop", "ok", "put 1", "ok", "put 2", "ok", "drop", "ok", "open a int", "ok", "append", "error 4", "put 3", "ok", "append", "ok", "drop", "ok", "rows", "ok 1 0\n 0 0 3")
	p.talk(t, "put 4", "ok", "drop", "ok", "put 5", "ok", "append", "ok", "rows", "ok 2 0\n 0 0 3\n 1 0 5", "close", "ok true", "drop", "ok", "open a int", "ok")
}

// TestNewFile: P23.1: new of each quota: the file is another one, and no rows wait; a quota that is refused changes nothing.
func TestNewFile(t *testing.T) {
	for _, quota := range []string{"0", "1", "9", "12", "100", "1048575", "1048576"} {
		p := newPair().talk(t, "open a int", "ok", "put 1", "ok", "append", "ok", "put 2", "ok", "new "+quota, "ok")
		p.talk(t, "bytes", "ok 0 00000000", "rows", "ok 0 0", "append", "error 6", "start", "error 6", "open a int", "ok", "append", "error 4")
	}
	for _, quota := range []string{"1048577", "1048578", "2097152", "999999999"} {
		p := newPair().talk(t, "open a int", "ok", "put 1", "ok", "append", "ok", "put 2", "ok", "new "+quota, "error 1")
		p.talk(t, "open a int", "error 6", "append", "ok", "rows", "ok 2 0\n 0 0 1\n 1 0 2")
	}
	newPair().talk(t, "fail 0 0", "ok", "new 50", "ok", "open a int", "ok", "put 1", "ok", "append", "ok", "new 9", "ok", "start", "error 6")
}

// TestQuota: P23.1: the quota is just what new says.
func TestQuota(t *testing.T) {
	p := newPair().do(t, "open a int", "put 1", "append")
	size := len(p.words.f.Bytes())
	fits, short := strconv.Itoa(size), strconv.Itoa(size-1)
	newPair().talk(t, "new "+short, "ok", "open a int", "ok", "put 1", "ok", "append", "error 52", "bytes", "ok 0 00000000", "rows", "ok 0 0")
	newPair().talk(t, "new "+fits, "ok", "open a int", "ok", "put 1", "ok", "append", "ok", "close", "ok false", "rows", "ok 1 0\n 0 0 1")
	newPair().talk(t, "new 0", "ok", "open a int", "ok", "close", "ok false", "bytes", "ok 0 00000000", "tail 'abc'", "ok", "bytes", "ok 3 352441c2")
	newPair().talk(t, "new 11", "ok", "open a int", "ok", "close", "ok false", "new 12", "ok", "open a int", "ok", "close", "ok true")
}

// TestSync: P23.1: Sync, and its error; what is synced stays when power fails.
func TestSync(t *testing.T) {
	newPair().talk(t, "sync", "error 6", "open a int", "ok", "sync", "ok", "put 1", "ok", "append", "ok", "sync", "ok", "put 2", "ok", "append", "ok", "fail 0 0", "ok", "put 3", "ok", "append", "error 51", "sync", "error 6", "start", "ok", "sync", "error 6", "rows", "ok 1 0\n 0 0 1")
	newPair().talk(t, "open a int", "ok", "put 1", "ok", "append", "ok", "put 2", "ok", "append", "ok", "fail 0 0", "ok", "put 3", "ok", "append", "error 51", "start", "ok", "rows", "ok 0 0", "bytes", "ok 0 00000000")
}

// TestClose: P23.1: true of a file that has to write an index, false of one that has one, or no room; each of its errors.
func TestClose(t *testing.T) {
	p := newPair().talk(t, "close", "error 6", "open a int", "ok", "close", "ok true", "close", "error 6", "open a int", "ok", "close", "ok false", "open b text", "ok", "sync", "ok", "close", "ok false")
	p.talk(t, "open a int", "ok", "put 1", "ok", "append", "ok", "close", "ok true", "put 2", "ok", "append", "error 6", "open a int", "ok", "append", "ok", "close", "ok true", "open a int", "ok", "close", "ok false")
	p.talk(t, "open a int", "ok", "put 3", "ok", "append", "ok", "sync", "ok", "fail 0 0", "ok", "close", "error 51", "close", "error 6", "start", "ok", "close", "error 6", "rows", "ok 3 0\n 0 0 1\n 1 0 2\n 2 0 3")
}

// TestPower: P23.1: Fail(N, M), Start, and their errors: N and M stand in this order.
func TestPower(t *testing.T) {
	for _, by := range [][3]int{{0, 0, 0}, {0, 5, 0}, {5, 0, 0}, {5, 3, 3}, {3, 5, 3}, {5, 9, 5}, {9, 999999999, 9}} {
		p := newPair().talk(t, "open a int", "ok", "put 1", "ok", "start", "error 6")
		p.talk(t, "fail "+strconv.Itoa(by[0])+" "+strconv.Itoa(by[1]), "ok", "append", "error 51", "fail 0 0", "error 50", "fail 999999999 999999999", "error 50", "start", "ok", "start", "error 6")
		if got := len(p.words.f.Bytes()); got != by[2] {
			t.Fatalf("%v: %d bytes", by, got)
		}
		p.talk(t, "bytes", p.answer(t, "bytes"), "fail 0 0", "ok")
	}
	// What was said by an earlier one is forgotten.
	newPair().talk(t, "open a int", "ok", "put 1", "ok", "fail 0 0", "ok", "fail 999999999 0", "ok", "append", "ok")
}

// TestDamage: P23.1: Damage(N, M modulo 256), and its errors.
func TestDamage(t *testing.T) {
	newPair().talk(t, "damage 0 1", "error 7", "open a int", "ok", "damage 0 1", "error 6", "close", "ok true", "damage 12 1", "error 7", "damage 999999999 1", "error 7", "damage 11 1", "ok")
	for m, want := range map[string]byte{"0": 0, "1": 1, "97": 97, "128": 128, "255": 255, "256": 0, "257": 1, "353": 97, "511": 255, "512": 0, "1000": 232, "65536": 0, "999999999": 255} {
		p := newPair().talk(t, "tail 'xyz'", "ok", "damage 1 "+m, "ok")
		if got := string(p.words.f.Bytes()); got != "x"+string([]byte{want})+"z" {
			t.Fatalf("damage 1 %s: %q", m, got)
		}
		p.line(t, "bytes")
	}
	// While power is down, too.
	newPair().talk(t, "tail 'xyz'", "ok", "fail 0 0", "ok", "open a int", "error 51", "damage 2 98", "ok", "damage 0 97", "ok", "damage 1 97", "ok", "bytes", "ok 3 690e2297")
}

// TestTail: P23.1: Tail of Bytes; ErrKind of every other value, without a place; each error of ParseValue with its place; those of Tail.
func TestTail(t *testing.T) {
	kinds := []string{"true", "1", "~1", `"x"`, "none", "some('x')", "[]", "['x']"}
	open := newPair().talk(t, "open a int", "ok")
	for _, v := range kinds {
		newPair().talk(t, "tail "+v, "error 60", "bytes", "ok 0 00000000")
		open.talk(t, "tail "+v, "error 60")
	}
	for v, want := range map[string]string{"x": "error 5 at 0", "'x": "error 5 at 2", `'\x41'`: "error 5 at 1", "'x', 'y'": "error 5 at 3", "01": "error 5 at 0", "[[[['x']]]]": "error 62 at 4", `"\xff"`: "error 61 at 0", "[" + strings.TrimSuffix(many("1, ", 257), ", ") + "]": "error 3 at 0"} {
		newPair().talk(t, "tail "+v, want, "bytes", "ok 0 00000000")
		open.talk(t, "tail "+v, want)
	}
	open.talk(t, "tail 'x'", "error 6", "tail ''", "error 6", "close", "ok true", "tail 'x'", "ok", `tail '\x00\xff\'\\"'`, "ok")
	if got := string(open.words.f.Bytes()[12:]); got != "x\x00\xff'\\\"" {
		t.Fatalf("%q", got)
	}
	// Whatever the quota is; all of it is synced.
	newPair().talk(t, "new 0", "ok", "tail 'xyz'", "ok", "fail 0 0", "ok", "open a int", "error 51", "tail 'abc'", "ok", "bytes", "ok 6 6c967499", "start", "ok", "bytes", "ok 6 6c967499")
}

// TestTailLong: P23.1: more than twice MaxQuota bytes are refused.
func TestTailLong(t *testing.T) {
	p := newPair().talk(t, "new 0", "ok")
	for range 2097 {
		p.talk(t, "tail '"+many("x", 1000)+"'", "ok")
	}
	p.talk(t, "tail '"+many("x", 153)+"'", "error 2", "tail '"+many("x", 152)+"'", "ok", "tail 'x'", "error 2", "tail ''", "ok", "damage 2097151 0", "ok", "damage 2097152 0", "error 7")
}
