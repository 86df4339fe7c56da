package salvage_test

import (
	"bytes"
	"math"
	"slices"
	"testing"

	"gabion/api"
	"gabion/frame"
	"gabion/salvage"
)

// mustSchemas holds Schemas against the words, and against what is to be told by hand.
func mustSchemas(t *testing.T, b []byte, want ...api.Numbered) {
	t.Helper()
	if got := asSchemas(t, b); len(got) != len(want) || numberedText(got...) != numberedText(want...) {
		t.Fatalf("Schemas of %s: %s, want %s by hand", shown(b), brief(numberedText(got...)), brief(numberedText(want...)))
	}
}

// framesOf are schema frames one behind the other.
func framesOf(l ...api.Numbered) []byte {
	var b []byte
	for _, x := range l {
		b = append(b, encoded(schemaFrame(x.Number, x.Schema))...)
	}
	return b
}

// TestSchemasNone: P17.1: of no bytes, of bytes without a zero, without a schema frame.
func TestSchemasNone(t *testing.T) {
	data, index := encoded(dataOf(0, 0, 0, ints, numbers(1))), encoded(indexFrame(0, 0, 0, entry(1, 2, 3)))
	for _, b := range [][]byte{
		nil, {}, {5}, row(5, 300), row(7, 9000), bytes.Trim(framesOf(named(0, ints)), "\x00"), {0}, row(0, 2), row(0, 5000), {5, 0}, {0, 5}, {0, 5, 0}, fenced("\x01"), fenced(string(row(9, maxFrame))), fenced(string(row(9, maxFrame+1))),
		data, index, join(data, index, data), mixedBytes(1, 5000, 3), mixedBytes(2, 5000, 100), framesOf(named(0, ints))[1:], framesOf(named(0, ints))[:10],
	} {
		mustSchemas(t, b)
	}
}

// TestSchemasTwice: P17.1: one number once, twice with the same schema, twice and thrice with schemas that are not the same, in each order.
func TestSchemasTwice(t *testing.T) {
	for _, n := range []int64{0, 1, 2, 127, 128, maxNumber - 1} {
		a, b, c := named(n, ints), named(n, texts), named(n, floats)
		mustSchemas(t, framesOf(a), a)
		mustSchemas(t, framesOf(a, a), a)
		mustSchemas(t, framesOf(a, a, a, a), a)
		for _, l := range [][]api.Numbered{{a, b}, {b, a}, {a, b, c}, {a, a, b}, {a, b, a}, {b, a, a}, {a, b, b, a}, {a, b, a, b}, {a, b, c, a}, {a, b, a, b, a}} {
			mustSchemas(t, framesOf(l...))
			near := named((n+1)%maxNumber, two)
			mustSchemas(t, join(framesOf(near), framesOf(l...), framesOf(near)), near)
		}
	}
}

// TestSchemasNear: P17.1: schemas are not the same that differ in one thing alone: a name, a type, what it is of, whether there is a default, which, the order, one column more; in a float's sign.
func TestSchemasNear(t *testing.T) {
	base := of(plain("a", listOf(ofInt)), with("b", ofFloat, bits(0)))
	for _, other := range []api.Schema{
		of(plain("c", listOf(ofInt)), with("b", ofFloat, bits(0))), of(plain("a", optOf(ofInt)), with("b", ofFloat, bits(0))), of(plain("a", listOf(ofText)), with("b", ofFloat, bits(0))), of(plain("a", listOf(ofInt)), plain("b", ofFloat)),
		of(plain("a", listOf(ofInt)), with("b", ofFloat, bits(1<<63))), of(plain("a", listOf(ofInt)), with("b", ofFloat, bits(1))), of(with("b", ofFloat, bits(0)), plain("a", listOf(ofInt))), of(plain("a", listOf(ofInt))), of(plain("a", listOf(ofInt)), with("b", ofFloat, bits(0)), plain("c", ofInt)), of(with("a", listOf(ofInt), list()), with("b", ofFloat, bits(0))),
	} {
		mustSchemas(t, framesOf(named(3, base), named(3, other)))
		mustSchemas(t, framesOf(named(3, other), named(3, base), named(3, other)))
		mustSchemas(t, framesOf(named(3, base), named(4, other)), named(3, base), named(4, other))
	}
	nan, other := of(with("a", ofFloat, bits(theNaN))), of(with("a", ofFloat, bits(0xfff8000000000001)))
	mustSchemas(t, framesOf(named(3, nan), named(3, other)), named(3, nan))
}

// TestSchemasRising: P17.1: numbers that rise, fall and leave gaps, in all orders, are told rising, each with its schema.
func TestSchemasRising(t *testing.T) {
	want := []api.Numbered{named(0, ints), named(1, texts), named(2, two), named(500, floats), named(maxNumber-1, nested)}
	for order := range 3125 {
		var l []api.Numbered
		for k := range 5 {
			l = append(l, want[order/[]int{1, 5, 25, 125, 625}[k]%5])
		}
		var some []api.Numbered
		for _, x := range want {
			if bytes.Contains(framesOf(l...), framesOf(x)) {
				some = append(some, x)
			}
		}
		mustSchemas(t, framesOf(l...), some...)
	}
	var many []api.Numbered
	var b []byte
	for n := range int64(1000) {
		many = append(many, named(n, wide(int(n%16)+1)))
		at := 999 - n*7%1000
		b = append(b, framesOf(named(at, wide(int(at%16)+1)))...)
	}
	mustSchemas(t, b, many...)
	for range 20 {
		if got := salvage.Schemas(b); numberedText(got...) != numberedText(many...) {
			t.Fatalf("told otherwise than ahead: %s", brief(numberedText(got...)))
		}
	}
}

// TestSchemasAmong: P17.1: schema frames among data and index frames, damaged ones, runs that are no frame, noise; behind half frames, at the end.
func TestSchemasAmong(t *testing.T) {
	a, b := framesOf(named(4, nested)), framesOf(named(2, longSchema(1024)))
	damaged := bytes.Clone(a)
	damaged[5] ^= 1
	others := [][]byte{
		nil, encoded(dataOf(4, 0, 0, ints, numbers(1))), encoded(dataFrame(2, 9, 9, 1, "")), encoded(indexFrame(5, 1, 1)), damaged, a[:len(a)/2], join(row(0, 1), row(5, maxFrame), row(0, 1)), join(row(0, 1), row(5, maxFrame+1), row(0, 1)), row(0, 3), row(5, 3), row(5, 5000),
		fenced(runOf("\x01\x04\x00")), fenced(runOf("\x01\x04\x01\x01A\x02\x00")), fenced(runOf("\x04\x04\x01\x01a\x02\x00")), fenced(runOf("\x01\x80\x00\x01\x01a\x02\x00")), fenced(runOf("\x01\x80\x80\x80\x80\x08\x01\x01a\x02\x00")), fenced(runOf("\x01\x04\x01\x01a\x02\x00\x00")),
	}
	for _, x := range others {
		for _, y := range others {
			all := join(x, row(0, 1), a, y, row(0, 1), b, y, x, row(0, 1), a)
			mustSchemas(t, all, named(2, longSchema(1024)), named(4, nested))
			mustSchemas(t, join(all, x, framesOf(named(4, ints)), y), named(2, longSchema(1024)))
		}
	}
}

// TestSchemasFences: P17.1: one fence closes a run and opens the next one; without its fence ahead, or behind, a frame is no run.
func TestSchemasFences(t *testing.T) {
	one, other := framesOf(named(0, ints)), framesOf(named(1, texts))
	mustSchemas(t, join(one[:len(one)-1], other), named(0, ints), named(1, texts))
	mustSchemas(t, join(one, other[1:]), named(0, ints), named(1, texts))
	mustSchemas(t, join(one[1:], other), named(1, texts))
	mustSchemas(t, join(one, other[:len(other)-1]), named(0, ints))
	mustSchemas(t, join(one[:len(one)-1], other[1:]))
	mustSchemas(t, join(row(7, 1), one, row(7, 1), row(0, 1), other, row(7, 1)), named(0, ints), named(1, texts))
	mustSchemas(t, join(row(0, 9), one, row(0, 9), other, row(0, 9)), named(0, ints), named(1, texts))
	for at := range len(one) + 1 {
		if at < len(one)-1 { // else the other one's fence closes it
			mustSchemas(t, join(one[:at], other), named(1, texts))
		}
		mustSchemas(t, join(other, one[:at], row(7, 1), one[at:]), slices.Concat(map[bool][]api.Numbered{true: {named(0, ints)}}[at == 0 || at == len(one)], []api.Numbered{named(1, texts)})...)
	}
}

// TestSchemasDamaged: P17.1: each byte of two schema frames changed in turn: the other one alone is told.
func TestSchemasDamaged(t *testing.T) {
	one, other := framesOf(named(7, nested)), framesOf(named(3, floats))
	for at := range len(one) + len(other) {
		for _, c := range []byte{1, 2, 128, 255} {
			b := join(one, other)
			b[at] ^= c
			want := named(7, nested)
			if at < len(one) {
				want = named(3, floats)
			}
			mustSchemas(t, b, want)
		}
	}
}

// TestSchemasNumbers: P17.1: what frame.Decode takes for a schema frame's number, and what it does not.
func TestSchemasNumbers(t *testing.T) {
	for _, n := range []int64{0, 1, maxNumber - 1, maxNumber, maxNumber + 1, -1, math.MinInt64, math.MaxInt64} {
		b, e := frame.Encode(schemaFrame(n, ints))
		if (e == api.OK) != (n >= 0 && n < maxNumber) {
			t.Fatalf("frame.Encode: %d", e)
		}
		if e == api.OK {
			mustSchemas(t, b, named(n, ints))
		}
	}
	mustSchemas(t, fenced(runOf("\x01\xff\xff\xff\xff\x07\x01\x01a\x02\x00")), named(maxNumber-1, ints))
	mustSchemas(t, fenced(runOf("\x01\x80\x80\x80\x80\x08\x01\x01a\x02\x00")))
}
