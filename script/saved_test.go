package script_test

import (
	"fmt"
	"hash/crc32"
	"strconv"
	"strings"
	"testing"
)

// TestSalvageNone: P23.1: salvage of no batch is one line.
func TestSalvageNone(t *testing.T) {
	newPair().talk(t, "salvage", "ok 0", "put 1", "ok", "salvage", "ok 0", "open a int", "ok", "salvage", "ok 0", "close", "ok true", "salvage", "ok 0")
	newPair().talk(t, tail("\x00\x00\x00xyz\x00"), "ok", "salvage", "ok 0")
	// Its schema is none any more.
	newPair().do(t, "open a int", "put 1", "append", "close").talk(t, "damage 2 9", "ok", "salvage", "ok 0")
}

// several is a file of four batches of unlike numbers: where each stands, and the rest of its line.
func several(t *testing.T) (pair, []int, []string) {
	t.Helper()
	p := newPair().do(t, "open a int", "put 1", "put 2", "put 3", "append", "put 4", "append", "change a int, b text")
	for range 12 {
		p.do(t, `put 5, "x"`)
	}
	p.do(t, "append", "change a int", "put 6", "put 7", "append", "close")
	var places []int
	var fences []int
	for at, c := range []byte(p.bytesOf()) {
		if c == 0 {
			fences = append(fences, at)
		}
	}
	if len(fences) != 16 {
		t.Fatalf("%d fences", len(fences))
	}
	for _, frame := range []int{1, 2, 4, 6} { // 0, 3, 5 are schemas, 7 an index
		places = append(places, fences[2*frame])
	}
	return p, places, []string{" 0 0 0 3", " 0 1 3 1", " 1 2 4 12", " 2 3 16 2"}
}

// saying is the answer that tells these of the batches.
func saying(places []int, rest []string, which ...int) string {
	s := "ok " + strconv.Itoa(len(which))
	for _, k := range which {
		s += "\n " + strconv.Itoa(places[k]) + rest[k]
	}
	return s
}

// TestSalvage: P23.1: of each batch At, Number, Seq, First, and how many rows, in this order; while the file is open, down, damaged, too.
func TestSalvage(t *testing.T) {
	p, places, rest := several(t)
	all := saying(places, rest, 0, 1, 2, 3)
	if !strings.HasPrefix(all, "ok 4\n 14 0 0 0 3\n ") {
		t.Fatalf("it is %q", all)
	}
	p.talk(t, "salvage", all, "open a int", "ok", "salvage", all, "put 1", "ok", "sync", "ok", "fail 0 0", "ok", "append", "error 51", "salvage", all, "start", "ok", "salvage", all)
	within := func(k int) string { return "damage " + strconv.Itoa(places[k]+3) + " 255" }
	p.talk(t, within(2), "ok", "salvage", saying(places, rest, 0, 1, 3), within(0), "ok", "salvage", saying(places, rest, 1, 3), within(3), "ok", "salvage", saying(places, rest, 1), within(1), "ok", "salvage", "ok 0")
}

// TestSalvageTwice: P23.1: bytes that are no file: the same frames twice, among noise.
func TestSalvageTwice(t *testing.T) {
	b := newPair().do(t, "open a int", "put 1", "put 2", "append", "put 3", "append").bytesOf()
	first := strings.Index(b[1:], "\x00") + 2
	second := first + strings.Index(b[first+1:], "\x00") + 2
	want := "ok 4"
	for _, at := range []int{3, 3 + len(b) + 4} {
		want += fmt.Sprintf("\n %d 0 0 0 2\n %d 0 1 2 1", at+first, at+second)
	}
	p := newPair().talk(t, tail("abc"+b), "ok", tail("defg"+b), "ok", "salvage", want, "rows", "ok 0 141")
	p.talk(t, "open a int", "error 150", "salvage", want)
}

// TestBytes: P23.1: how many bytes there are, and their check, of eight digits, also if it begins with zeros.
func TestBytes(t *testing.T) {
	for b, check := range map[string]string{
		"": "00000000", "\x00": "d202ef8d", "\xff": "ff000000", "123456789": "cbf43926", "\xff\xff\xff\xff": "ffffffff",
		"c": "06b9df6f", "ae": "00e7ddce", "ex5": "0008e704", "ob": "000065e3", "22au": "0000019d", "10025621": "00000069", "\xdc\x0c\xa8\xb6": "00000001", "\x9d\x0a\xd9\x6d": "00000000", "\x7e\x17\x9e\x35": "0abcdef1",
	} {
		want := "ok " + strconv.Itoa(len(b)) + " " + check
		if check != fmt.Sprintf("%08x", crc32.ChecksumIEEE([]byte(b))) {
			t.Fatalf("the check of %q is not %s", b, check)
		}
		newPair().talk(t, tail(b), "ok", "bytes", want, "bytes", want)
		newPair().talk(t, tail(b), "ok", "fail 0 0", "ok", "open a int", map[bool]string{true: "ok", false: "error 51"}[b == ""], "bytes", want)
	}
	zeros := 0
	for n := range 3000 {
		b := string(mixedBytes(uint64(n), n%50))
		got := newPair().talk(t, tail(b), "ok").answer(t, "bytes")
		if strings.Contains(got, " 00") {
			zeros++
		}
		if want := fmt.Sprintf("ok %d %08x", len(b), crc32.ChecksumIEEE([]byte(b))); got != want {
			t.Fatalf("%q: %s, want %s", b, got, want)
		}
	}
	if zeros < 5 {
		t.Fatalf("only %d checks begin with two zeros", zeros)
	}
}

// TestBytesOfWritten: P23.1: the bytes that were written, those of a frame that is told by hand.
func TestBytesOfWritten(t *testing.T) {
	frame := frameOf("\x01\x00\x01\x01a\x02\x00")
	p := newPair().do(t, "open a int", "put 1", "append")
	if !strings.HasPrefix(p.bytesOf(), frame) {
		t.Fatalf("%q does not begin with %q", p.bytesOf(), frame)
	}
	p.talk(t, "bytes", fmt.Sprintf("ok %d %08x", len(p.bytesOf()), crc32.ChecksumIEEE([]byte(p.bytesOf()))))
	p.talk(t, "drop", "ok", "fail 0 0", "ok", "put 2", "ok", "append", "error 51", "bytes", "ok 0 00000000")
}
