package salvage_test

import (
	"math"
	"slices"
	"strings"
	"testing"

	"gabion/api"
	"gabion/salvage"
	"gabion/schema"
)

// wrongOnes are schemas that may not be, at least one for each of schema.Check's errors, by these.
func wrongOnes() map[api.Errno][]api.Schema {
	return map[api.Errno][]api.Schema{
		api.ErrEmpty: {{}},
		api.ErrMany:  {wide(17), of(with("a", listOf(ofInt), list(slices.Repeat([]api.Value{number(1)}, 257)...)))},
		api.ErrName:  {of(plain("", ofInt)), of(plain("A", ofInt)), of(plain("a", ofInt), plain("_", ofInt))},
		api.ErrTwice: {of(plain("a", ofInt), plain("a", ofInt))},
		api.ErrKind:  {of(plain("a", kind(0))), of(plain("a", kind(8))), of(plain("a", kind(api.List))), of(plain("a", kind(api.Int, ofInt))), of(with("a", ofBool, api.Value{Kind: 9})), of(with("a", ofBool, api.Value{Kind: api.Bool, Int: 2}))},
		api.ErrDeep:  {of(plain("a", listOf(listOf(listOf(listOf(ofInt))))))},
		api.ErrType:  {of(with("a", ofText, number(5))), of(api.Column{Name: "a", Type: ofInt, Default: number(1)})},
		api.ErrUtf:   {of(with("a", ofText, text("\xff")))},
		api.ErrLong:  {longSchema(1025), of(with("a", ofText, text(strings.Repeat("a", 1025))))},
	}
}

// wrongSchemas are all of these, in one order.
func wrongSchemas() []api.Schema {
	by := wrongOnes()
	var l []api.Schema
	for _, e := range []api.Errno{api.ErrEmpty, api.ErrMany, api.ErrName, api.ErrTwice, api.ErrKind, api.ErrDeep, api.ErrType, api.ErrUtf, api.ErrLong} {
		l = append(l, by[e]...)
	}
	return l
}

// TestNewEmpty: P17.2: of an empty list nothing is told, but bytes are held.
func TestNewEmpty(t *testing.T) {
	b := join(framesOf(named(0, ints)), encoded(dataOf(0, 0, 0, ints, numbers(1))))
	for _, l := range [][]api.Numbered{nil, {}} {
		must(t, l, nil)
		must(t, l, b)
		s := salvage.New(l)
		if s.Held() != 0 {
			t.Fatalf("Held %d at the beginning", s.Held())
		}
		if got := s.Feed(b[:len(b)-4]); len(got) != 0 || s.Held() == 0 {
			t.Fatalf("%d batches, Held %d", len(got), s.Held())
		}
	}
}

// TestNewTwice: P17.2: a number that stands in the list twice and more, with the same schema and with others, in each order, also such that may not be: the schema of its first frame or of its last does not win.
func TestNewTwice(t *testing.T) {
	for _, n := range []int64{0, 1, 300, maxNumber - 1} {
		near := (n + 1) % maxNumber
		b := join(encoded(dataOf(n, 5, 6, ints, numbers(1, 2))), encoded(dataOf(near, 7, 8, ints, numbers(3))))
		behind := saved(len(b)-len(encoded(dataOf(near, 7, 8, ints, numbers(3)))), near, 7, 8, numbers(3))
		own, other := saved(0, n, 5, 6, numbers(1, 2)), named(near, ints)
		a := named(n, ints)
		for _, l := range [][]api.Numbered{{a}, {a, a}, {a, a, a}} {
			must(t, l, b, own)
			must(t, append(slices.Clip(l), other), b, own, behind)
			must(t, slices.Concat([]api.Numbered{other}, l, []api.Numbered{other}), b, own, behind)
		}
		for _, s := range append(wrongSchemas(), texts, two, of(with("a", ofInt, number(0))), of(plain("b", ofInt))) {
			x := named(n, s)
			for _, l := range [][]api.Numbered{{x}, {a, x}, {x, a}, {a, x, a}, {a, a, x}, {x, a, a}, {a, x, x}, {a, x, a, x, a}} {
				if schema.Check(s) == api.OK && len(l) == 1 {
					continue
				}
				must(t, l, b)
				must(t, append(slices.Clip(l), other), b, behind)
				must(t, slices.Concat([]api.Numbered{other}, l), b, behind)
			}
		}
	}
}

// TestNewFixed: P17.2, R6: schemas whose floats are NaNs of other bits are the same, those of noughts of unlike signs are not.
func TestNewFixed(t *testing.T) {
	under := func(b uint64) api.Schema { return of(plain("a", ofInt), with("f", listOf(ofFloat), list(bits(b)))) }
	rows := []api.Row{values(number(4), list(bits(theNaN)))}
	b := encoded(dataOf(0, 0, 0, under(0), rows))
	for _, l := range [][]api.Numbered{{named(0, under(0x7ff0000000000001))}, {named(0, under(theNaN)), named(0, under(0xfff8000000000001))}, {named(0, under(0xfff8000000000001)), named(0, under(theNaN)), named(0, under(0x7ff0000000000009))}} {
		must(t, l, b, saved(0, 0, 0, 0, rows))
	}
	must(t, []api.Numbered{named(0, under(0)), named(0, under(1<<63))}, b)
	must(t, []api.Numbered{named(0, under(theNaN)), named(0, under(1<<63)), named(0, under(theNaN))}, b)
}

// TestNewNumbers: P17.2: numbers that are small count, those that are not count for nothing, and take nothing from the others.
func TestNewNumbers(t *testing.T) {
	var l []api.Numbered
	for _, n := range []int64{-1, maxNumber, maxNumber + 1, maxNumber + 5, 1 << 32, 1<<32 + 5, 1 << 40, math.MinInt64, math.MinInt64 + 5, math.MaxInt64, -5, -maxNumber} {
		l = append(l, named(n, ints))
	}
	for _, n := range []int64{0, 1, 5, maxNumber - 1} {
		b := encoded(dataOf(n, 0, 0, ints, numbers(9)))
		must(t, l, b)
		for _, x := range l {
			must(t, []api.Numbered{x}, b)
		}
		must(t, append(slices.Clip(l), named(n, ints)), b, saved(0, n, 0, 0, numbers(9)))
		must(t, append([]api.Numbered{named(n, ints)}, l...), b, saved(0, n, 0, 0, numbers(9)))
	}
}

// TestNewWrong: P17.2: a schema that may not be, by each error of schema.Check, counts for nothing; those of other numbers count.
func TestNewWrong(t *testing.T) {
	for want, l := range wrongOnes() {
		for _, s := range l {
			if e := schema.Check(s); e != want {
				t.Fatalf("schema.Check of%.100s: %d, want %d", schemaText(s), e, want)
			}
			b := join(encoded(dataOf(3, 0, 0, ints, numbers(9))), encoded(dataFrame(3, 0, 0, 1, "\x00")), encoded(dataFrame(3, 0, 0, 17, "\x00"+strings.Repeat("\x02", 17))))
			must(t, []api.Numbered{named(3, s)}, b)
			must(t, []api.Numbered{named(3, s), named(3, s)}, b)
			right := encoded(dataOf(4, 1, 2, texts, rows(text("x"))))
			must(t, []api.Numbered{named(3, s), named(4, texts)}, join(b, right, b), saved(len(b), 4, 1, 2, rows(text("x"))))
			must(t, []api.Numbered{named(4, texts), named(3, s)}, join(b, right, b), saved(len(b), 4, 1, 2, rows(text("x"))))
		}
	}
}

// TestNewMany: P17.2: many schemas, each of its own number, in mixed order.
func TestNewMany(t *testing.T) {
	var l []api.Numbered
	var b []byte
	var want []api.Batch
	for k := range int64(3000) {
		n := k * 7919 % 3000
		columns := int(n%16) + 1
		l = append(l, named(n*1000, wide(columns)))
		written := values(slices.Repeat([]api.Value{number(k)}, int(k%16)+1)...)
		want = append(want, saved(len(b), k*1000, k, k, []api.Row{written}))
		b = append(b, encoded(dataOf(k*1000, k, k, wide(int(k%16)+1), []api.Row{written}))...)
	}
	sameBatches(t, "3000 schemas", salvage.New(l).Feed(b), want)
}

// TestNewBeginning: P17.2, R5: each one begins at a stream's beginning, whatever others were fed.
func TestNewBeginning(t *testing.T) {
	b := encoded(dataOf(0, 0, 0, ints, numbers(1)))
	l := []api.Numbered{named(0, ints)}
	other := salvage.New(l)
	for n := range len(b) {
		other.Feed(b[:n])
		s := salvage.New(l)
		if s.Held() != 0 {
			t.Fatalf("Held %d at the beginning", s.Held())
		}
		sameBatches(t, "a new one", s.Feed(b), []api.Batch{saved(0, 0, 0, 0, numbers(1))})
	}
}
