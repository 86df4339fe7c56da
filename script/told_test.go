package script_test

import (
	"encoding/binary"
	"hash/crc32"
	"strconv"
	"strings"
	"testing"

	"gabion/api"
	"gabion/script"
	"gabion/stuff"
	"gabion/text"
)

// tail is the line that lays bytes behind the file.
func tail(b string) string {
	v, e := text.PrintValue(api.Value{Kind: api.Bytes, Text: b})
	if e != api.OK {
		panic("bytes that are too long for a line")
	}
	return "tail " + v
}

// fenced is a run between its fences.
func fenced(run string) string { return "\x00" + run + "\x00" }

// frameOf is a frame: its kind and fields, with their right check.
func frameOf(fields string) string {
	return fenced(string(stuff.Stuff(binary.LittleEndian.AppendUint32([]byte(fields), crc32.ChecksumIEEE([]byte(fields))))))
}

// bytesOf are the bytes of the file of the desk by the words.
func (p pair) bytesOf() string { return string(p.words.f.Bytes()) }

// TestNoRows: P23.1: rows, as, from of a file without rows: without a byte, open, with an index alone, with a schema frame alone.
func TestNoRows(t *testing.T) {
	none := []string{"rows", "ok 0 0", "as a int", "ok 0 0", "as b text = \"x\"", "ok 0 0", "from 0", "error 7", "from 1", "error 7", "from 999999999", "error 7"}
	newPair().talk(t, none...)
	newPair().talk(t, "open a int", "ok").talk(t, none...)
	newPair().talk(t, "open a int", "ok", "close", "ok true").talk(t, none...)
	newPair().talk(t, tail(frameOf("\x01\x00\x01\x01a\x02\x00")), "ok").talk(t, none...)
	newPair().talk(t, "put 1", "ok").talk(t, none...)
}

// TestRows: P23.1: of each row its number and that of its schema, open, closed, and while power is down.
func TestRows(t *testing.T) {
	p := newPair().talk(t, "open a int", "ok", "put 10", "ok", "put 11", "ok", "append", "ok", "change b text, a float", "ok", `put "x", ~-0`, "ok", "append", "ok", "put 1", "ok", "append", "error 80", "drop", "ok", `put "", ~nan`, "ok", `put "\"\\\x00", ~-inf`, "ok", "append", "ok")
	want := "ok 5 0\n 0 0 10\n 1 0 11\n 2 1 \"x\", ~-0\n 3 1 \"\", ~nan\n 4 1 \"\\\"\\\\\\x00\", ~-inf"
	p.talk(t, "rows", want, "rows", want, "sync", "ok", "rows", want)
	p.talk(t, "from 0", want, "from 3", "ok 2 0\n 3 1 \"\", ~nan\n 4 1 \"\\\"\\\\\\x00\", ~-inf", "from 5", "error 7")
	p.talk(t, "as a float", "ok 5 0\n 0 0 ~10\n 1 0 ~11\n 2 1 ~-0\n 3 1 ~nan\n 4 1 ~-inf")
	p.talk(t, "close", "ok true", "rows", want, "from 0", want, "from 4", "ok 1 0\n 4 1 \"\\\"\\\\\\x00\", ~-inf", "from 5", "error 7")
	p.talk(t, "open a int", "ok", "put 1", "ok", "fail 0 0", "ok", "append", "error 51")
	p.talk(t, "rows", "ok 0 50", "as a int", "ok 0 50", "from 0", "error 50", "from 5", "error 50", "start", "ok", "rows", want)
}

// TestManyRows: P23.1: numbers of rows of several digits; from each of them on, with an index and without.
func TestManyRows(t *testing.T) {
	p := newPair().do(t, "open a int")
	for n := range 120 {
		p.talk(t, "put "+strconv.Itoa(n*n), "ok")
		if n%3 == 2 {
			p.talk(t, "append", "ok")
		}
	}
	for range 2 {
		for n := range 120 {
			want := "ok " + strconv.Itoa(120-n) + " 0"
			for k := n; k < 120; k++ {
				want += "\n " + strconv.Itoa(k) + " 0 " + strconv.Itoa(k*k)
			}
			p.talk(t, "from "+strconv.Itoa(n), want)
		}
		p.talk(t, "from 120", "error 7", "from 121", "error 7", "from 999999999", "error 7")
		p.do(t, "close")
	}
}

// TestRowsThatCannot: P23.1: rows that can't be told under a schema, with each error, among such as can.
func TestRowsThatCannot(t *testing.T) {
	p := newPair().talk(t, "open a int", "ok", "put 1", "ok", "put 9007199254740993", "ok", "put -3", "ok", "append", "ok")
	p.talk(t, "as a float", "ok 3 0\n 0 0 ~1\n 1 0 error 10\n 2 0 ~-3", "as a text", "ok 3 0\n 0 0 error 60\n 1 0 error 60\n 2 0 error 60", "as c int", "ok 3 0\n 0 0 error 90\n 1 0 error 90\n 2 0 error 90")
	p.talk(t, "as c int, a int", "ok 3 0\n 0 0 error 90\n 1 0 error 90\n 2 0 error 90", "as c int = 5, a int", "ok 3 0\n 0 0 5, 1\n 1 0 5, 9007199254740993\n 2 0 5, -3")

	p = newPair().talk(t, "open a opt(bytes)", "ok", "put none", "ok", `put some('\xff')`, "ok", "put some('x')", "ok", "append", "ok", "change b int", "ok", "put 7", "ok", "append", "ok")
	p.talk(t, "as a text", "ok 4 0\n 0 0 error 91\n 1 0 error 61\n 2 0 \"x\"\n 3 1 error 90", "as a bytes", "ok 4 0\n 0 0 error 91\n 1 0 '\\xff'\n 2 0 'x'\n 3 1 error 90")
	p.talk(t, "as a opt(text)", "ok 4 0\n 0 0 none\n 1 0 error 61\n 2 0 some(\"x\")\n 3 1 error 90", "as b int = 0", "ok 4 0\n 0 0 0\n 1 0 0\n 2 0 0\n 3 1 7", "as a int = 1, b int = 2", "ok 4 0\n 0 0 error 60\n 1 0 error 60\n 2 0 error 60\n 3 1 1, 7")
}

// ends are bytes that reading ends at, behind two rows, and for what.
func ends(two string) map[string]int {
	data := frameOf("\x02\x00\x02\x02\x01\x00")
	return map[string]int{
		"x": 141, "\x00": 142, "\x00x": 142, data[:len(data)-1]: 142, "\x00\x00": 4,
		frameOf("\x01\x00\x01\x01a\x04\x00"):              143, // another schema of the number 0
		frameOf("\x01\x02\x01\x01a\x02\x00"):              143, // a number left out
		frameOf("\x02\x00\x01\x02\x01\x00"):               143,
		frameOf("\x02\x00\x02\x03\x01\x00"):               143,
		frameOf("\x03\x00\x02\x02\x00"):                   143,
		two:                                               143,
		fenced("\x01"):                                    30,
		fenced("\x02x"):                                   30,
		frameOf("\x04"):                                   60,
		frameOf("\x00abc"):                                60,
		frameOf("\x02\x80\x00"):                           5,
		frameOf("\x01\x01\x00"):                           4,
		frameOf("\x01\x01\x01\x01A\x02\x00"):              70,
		frameOf("\x01\x01\x02\x01a\x02\x00\x01a\x02\x00"): 71,
		fenced(string(stuff.Stuff([]byte("\x04abcd")))):   120,
	}
}

// TestReadingEnds: P23.1: rows, as and from are ok whatever reading ends for, and tell it behind the rows that stand ahead of it.
func TestReadingEnds(t *testing.T) {
	written := newPair().do(t, "open a int", "put 5", "append", "put -6", "append").bytesOf()
	for end, e := range ends(written) {
		p := newPair().talk(t, tail(written), "ok", tail(end), "ok")
		behind := " " + strconv.Itoa(e)
		p.talk(t, "rows", "ok 2"+behind+"\n 0 0 5\n 1 0 -6", "as a float", "ok 2"+behind+"\n 0 0 ~5\n 1 0 ~-6", "as b text", "ok 2"+behind+"\n 0 0 error 90\n 1 0 error 90")
		p.talk(t, "from 0", "ok 2"+behind+"\n 0 0 5\n 1 0 -6", "from 1", "ok 1"+behind+"\n 1 0 -6", "from 2", "error 7", "from 3", "error 7")
	}

	// At once, ahead of whatever row: then there is none from which on From could read.
	p := newPair().talk(t, tail("x"+written), "ok", "rows", "ok 0 141", "as a int", "ok 0 141", "from 0", "error 7")
	p.talk(t, "damage 0 0", "ok", "rows", "ok 0 4", "as a int", "ok 0 4", "from 0", "error 7")

	// A run that has no end within MaxFrame bytes.
	p = newPair().talk(t, tail(written), "ok", tail("\x00"), "ok")
	for range 5 {
		p.talk(t, tail(many("x", 440)), "ok")
	}
	p.talk(t, "rows", "ok 2 142\n 0 0 5\n 1 0 -6", tail("x"), "ok", "rows", "ok 2 2\n 0 0 5\n 1 0 -6", "as a opt(int)", "ok 2 2\n 0 0 some(5)\n 1 0 some(-6)", "from 1", "ok 1 2\n 1 0 -6", tail("\x00"), "ok", "from 1", "ok 1 2\n 1 0 -6")
}

// TestBlocksThatAreNone: P23.1: reading ends at a block that is no rows: the rows ahead of it are told.
func TestBlocksThatAreNone(t *testing.T) {
	written := newPair().do(t, "open a bool", "put true", "append").bytesOf()
	for _, block := range []string{"", "\x00", "\x01", "\x01\x02", "\x01\x00\x01", "\x80", "\xff\xff\xff"} {
		p := newPair().talk(t, tail(written), "ok", tail(frameOf("\x02\x00\x01\x01\x01"+block)), "ok")
		rows := p.answer(t, "rows")
		head, behind, _ := strings.Cut(rows, "\n")
		if e := strings.TrimPrefix(head, "ok 1 "); e == head || e == "0" || behind != " 0 0 true" {
			t.Fatalf("block %q: %s", block, rows)
		}
		p.talk(t, "from 0", rows, "as a bool", rows, "as a int", head+"\n 0 0 1", "from 1", "error 7")
	}
}

// TestFrom: P23.1: the errors of From, and no others, are told as errors; by an index, one that is stale, one that is damaged, and a block behind which no row comes.
func TestFrom(t *testing.T) {
	p := newPair().do(t, "open a int", "put 1", "put 2", "append", "put 3", "append", "close")
	p.talk(t, "from 0", "ok 3 0\n 0 0 1\n 1 0 2\n 2 0 3", "from 2", "ok 1 0\n 2 0 3", "from 3", "error 7")
	p.talk(t, "open a int", "ok", "put 4", "ok", "append", "ok", "from 2", "ok 2 0\n 2 0 3\n 3 0 4", "from 3", "ok 1 0\n 3 0 4", "from 4", "error 7", "close", "ok true")
	last := len(p.bytesOf()) - 3
	p.talk(t, "damage "+strconv.Itoa(last)+" 1", "ok")
	rows := p.answer(t, "rows")
	if head, _, _ := strings.Cut(rows, "\n"); head == "ok 4 0" || !strings.HasPrefix(head, "ok 4 ") {
		t.Fatalf("a damaged index: %s", brief(rows))
	}
	p.talk(t, "from 0", rows, "from 4", "error 7")
	if got := p.answer(t, "from 3"); !strings.HasPrefix(got, "ok 1 ") || !strings.HasSuffix(got, "\n 3 0 4") {
		t.Fatalf("a damaged index: %s", brief(got))
	}
}

// TestAsTakesAllColumns: P23.1: as reads all columns of its schema, in their order.
func TestAsTakesAllColumns(t *testing.T) {
	p := newPair().do(t, "open a int, b text, c bool", `put 1, "x", true`, "append")
	p.talk(t, "as c bool, a int", "ok 1 0\n 0 0 true, 1", "as b text", "ok 1 0\n 0 0 \"x\"", "as c int, d opt(int) = none, b bytes", "ok 1 0\n 0 0 1, none, 'x'")
	columns, row := "", ""
	for i := range 16 {
		columns += ", c" + strconv.Itoa(i) + " int = " + strconv.Itoa(i)
		row += ", " + strconv.Itoa(i)
	}
	p.talk(t, "as "+columns[2:], "ok 1 0\n 0 0 "+row[2:])
}

// TestReadingChangesNothing: P23.1: lines that only tell change nothing, whatever they answer.
func TestReadingChangesNothing(t *testing.T) {
	telling := []string{"rows", "as a int", "as c int", "as a", "from 0", "from 1", "from 77", "salvage", "bytes"}
	for _, lines := range stands {
		want := answersOf(t, append(append([]string{}, lines...), behind...))[len(lines):]
		for _, line := range telling {
			p := newPair().do(t, lines...).do(t, line, line)
			for i, next := range behind {
				if got, _ := p.line(t, next); got != want[i] {
					t.Fatalf("%q, %s, then %s: %s, want %s", lines, line, next, brief(got), brief(want[i]))
				}
			}
		}
	}
}

// TestFailureChangesNothing: P23.1: a line whose answer is an error has changed nothing, unless power failed.
func TestFailureChangesNothing(t *testing.T) {
	failing := []string{"new 1048577", "open A", "open a int, a int", "change a int = \"x\"", "put 01", "put [[[[1]]]]", "tail 5", "tail 'x", "damage 999999999 0", "as b", "from 999999999"}
	for _, lines := range stands {
		want := answersOf(t, append(append([]string{}, lines...), behind...))[len(lines):]
		for _, line := range failing {
			p := newPair().do(t, lines...)
			if got, e := p.line(t, line); !strings.HasPrefix(got, "error ") || e != api.OK {
				t.Fatalf("%q, %s: %s, %d", lines, line, brief(got), e)
			}
			for i, next := range behind {
				if got, _ := p.line(t, next); got != want[i] {
					t.Fatalf("%q, %s, then %s: %s, want %s", lines, line, next, brief(got), brief(want[i]))
				}
			}
		}
	}
}

// TestDesksApart: R5: what one desk does another one does not see.
func TestDesksApart(t *testing.T) {
	a, b := script.New(), script.New()
	for _, one := range []struct {
		d          *script.Desk
		line, want string
	}{
		{a, "open a int", "ok"}, {b, "append", "error 6"}, {a, "put 1", "ok"}, {b, "open b text", "ok"}, {b, "append", "error 4"}, {a, "append", "ok"}, {b, "rows", "ok 0 0"}, {b, `put "x"`, "ok"}, {a, "append", "error 4"}, {b, "append", "ok"}, {a, "fail 0 0", "ok"}, {b, "close", "ok true"}, {a, "close", "error 51"}, {b, "rows", "ok 1 0\n 0 0 \"x\""}, {a, "start", "ok"}, {b, "start", "error 6"}, {a, "rows", "ok 0 0"},
	} {
		if got, e := one.d.Line(one.line); got != one.want || e != api.OK {
			t.Fatalf("%s: %s, %d, want %s", one.line, brief(got), e, brief(one.want))
		}
	}
}
