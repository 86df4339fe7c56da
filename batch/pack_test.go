package batch_test

import (
	"bytes"
	"math"
	"slices"
	"strings"
	"testing"

	"gabion/api"
	"gabion/batch"
	"gabion/block"
)

// brief is the beginning of a text, as whole ones would hide what is wrong with them.
func brief(s string) string { return s[:min(len(s), 300)] }

// samePack asks for all that is promised of Size and Pack, and of Unpack of what Pack makes.
func samePack(t *testing.T, s api.Schema, l []api.Row, want api.Errno) {
	t.Helper()
	shown := brief(columns(s)) + ": " + brief(exact(l))
	size, wordE := wordSize(s, l)
	if wordE != want {
		t.Fatalf("by the words Size(%s) is %d, not %d", shown, wordE, want)
	}
	if n, e := batch.Size(s, l); n != size || e != want {
		t.Fatalf("Size(%s): %d, %d, want %d, %d", shown, n, e, size, want)
	}
	p, e := batch.Pack(s, l)
	if want != api.OK {
		if e != want || len(p) != 0 {
			t.Fatalf("Pack(%s): %x, %d, want %d", shown, p, e, want)
		}
		return
	}
	packed, _ := block.Pack(wordBytes(l))
	if e != api.OK || !bytes.Equal(p, packed) {
		t.Fatalf("Pack(%s): %x, %d, want %x", shown, p, e, packed)
	}
	again, e := batch.Pack(s, slices.Clone(l))
	if e != api.OK || !bytes.Equal(again, p) {
		t.Fatalf("Pack(%s): %x, and then %x, %d", shown, p, again, e)
	}
	told, e := batch.Unpack(s, p, len(l))
	if e != api.OK || exact(told) != fixed(l) {
		t.Fatalf("Unpack of Pack(%s): %s, %d", shown, brief(exact(told)), e)
	}
}

// asPacked is samePack with the error that the words tell.
func asPacked(t *testing.T, s api.Schema, l []api.Row) api.Errno {
	t.Helper()
	_, e := wordSize(s, l)
	samePack(t, s, l, e)
	return e
}

// wrongSchemas are schemas that may not be, for each of schema.Check's errors.
func wrongSchemas() map[string]struct {
	s api.Schema
	e api.Errno
} {
	type one = struct {
		s api.Schema
		e api.Errno
	}
	many := make([]api.Column, 17)
	for i := range many {
		many[i] = plain(string(rune('a'+i)), ofInt)
	}
	deep := listOf(listOf(listOf(listOf(ofInt))))
	return map[string]one{
		"no columns":             {api.Schema{}, api.ErrEmpty},
		"17 columns":             {of(many...), api.ErrMany},
		"no name":                {of(plain("", ofInt)), api.ErrName},
		"a wrong name":           {of(plain("A", ofInt)), api.ErrName},
		"a name twice":           {of(plain("a", ofInt), plain("a", ofInt)), api.ErrTwice},
		"no kind":                {of(plain("a", kind(0))), api.ErrKind},
		"another kind":           {of(plain("a", kind(8))), api.ErrKind},
		"a list of nothing":      {of(plain("a", kind(api.List))), api.ErrKind},
		"too deep":               {of(plain("a", deep)), api.ErrDeep},
		"a default not of it":    {of(with("a", ofText, number(5))), api.ErrType},
		"a default that is none": {of(with("a", ofBool, boolean(2))), api.ErrKind},
		"a default of no UTF-8":  {of(with("a", ofText, text("\xff"))), api.ErrUtf},
		"a default too long":     {of(with("a", ofText, text(strings.Repeat("a", 1025)))), api.ErrLong},
		"a default too many":     {of(with("a", listOf(ofBool), list(times(257, boolean(1))...))), api.ErrMany},
		"a default unasked":      {of(api.Column{Name: "a", Type: ofInt, Default: number(1)}), api.ErrType},
		"too many bytes":         {of(with("a", ofText, text(strings.Repeat("a", 1018)))), api.ErrLong},
		"the second column":      {of(plain("a", ofInt), plain("b", kind(9))), api.ErrKind},
	}
}

// TestPackExamples: P11.1, P11.2: the chapter's.
func TestPackExamples(t *testing.T) {
	samePack(t, ints, rows(number(1), number(-1), number(64)), api.OK)
	if n, _ := batch.Size(ints, rows(number(1), number(-1), number(64))); n != 4 {
		t.Errorf("Size of 1, -1, 64: %d", n)
	}
	if p, _ := batch.Pack(ints, rows(number(1), number(-1), number(64))); !bytes.Equal(p, raw("\x02\x01\x80\x01")) {
		t.Errorf("Pack of 1, -1, 64: %x", p)
	}
	samePack(t, ints, nil, api.ErrEmpty)
	samePack(t, ints, rows(times(65, number(1))...), api.ErrMany)
	samePack(t, ints, rows(text("a")), api.ErrType)
	samePack(t, texts, rows(times(2, long(1024))...), api.OK)
	if n, _ := batch.Size(texts, rows(times(2, long(1024))...)); n != 2048 {
		t.Errorf("Size of two of 1024: %d", n)
	}
	samePack(t, texts, rows(times(3, long(1024))...), api.ErrLong)
}

// TestWrongSchemas: P11.1 to P11.3: a schema that may not be comes first, whatever else is wrong.
func TestWrongSchemas(t *testing.T) {
	for name, one := range wrongSchemas() {
		for _, l := range [][]api.Row{nil, {}, rows(number(1)), {{}}, make([]api.Row, 64), make([]api.Row, 65), rows(text("\xff")), rows(times(3, long(1024))...), rows(text(strings.Repeat("x", 1025)))} {
			samePack(t, one.s, l, one.e)
		}
		for _, b := range [][]byte{nil, {}, {2}, {0}, {1}, {1, 0}, raw("\x02"), raw("\x80"), raw("\x02\x02"), raw(strings.Repeat("\x02", 2049)), literals("\x02")} {
			for _, n := range []int{math.MinInt, -1, 0, 1, 2, 64, 65, math.MaxInt} {
				sameUnpack(t, one.s, b, n, one.e)
			}
		}
		if t.Failed() {
			t.Fatal(name)
		}
	}
}

// TestCounts: P11.1, P11.2: no rows, one, 64, 65 and more, right ones and wrong ones.
func TestCounts(t *testing.T) {
	for n := range 130 {
		want := api.OK
		switch {
		case n == 0:
			want = api.ErrEmpty
		case n > 64:
			want = api.ErrMany
		}
		samePack(t, ints, rows(times(n, number(-300))...), want)
		samePack(t, of(plain("a", ofInt), plain("b", optOf(ofText))), slices.Repeat([]api.Row{values(number(int64(n)), opt())}, n), want)
		if want == api.OK {
			want = api.ErrType
		}
		samePack(t, ints, make([]api.Row, n), want)
		samePack(t, ints, rows(times(n, long(1024))...), want)
	}
	samePack(t, ints, []api.Row{}, api.ErrEmpty)
	samePack(t, texts, rows(times(65, long(1024))...), api.ErrMany)
	samePack(t, texts, rows(times(64, text(strings.Repeat("x", 1025)))...), api.ErrLong)
}

// TestWrongRows: P11.1, P11.2: the first row that may not be tells its error, wherever it stands.
func TestWrongRows(t *testing.T) {
	wrong := []struct {
		r api.Row
		e api.Errno
	}{
		{api.Row{}, api.ErrType}, {values(number(1)), api.ErrType}, {values(text("a"), text("a")), api.ErrType}, {values(opt(text("a"))), api.ErrType},
		{values(api.Value{}), api.ErrKind}, {values(api.Value{Kind: 8}), api.ErrKind}, {values(text("\xff")), api.ErrUtf},
		{values(boolean(2)), api.ErrKind}, {values(opt(number(1), number(1))), api.ErrKind}, {values(list(times(257, number(1))...)), api.ErrMany},
		{values(text(strings.Repeat("x", 1023))), api.ErrLong}, {values(text(strings.Repeat("x", 1025))), api.ErrLong},
		{values(list(list(list(list(number(1)))))), api.ErrDeep},
	}
	for _, one := range wrong {
		for _, n := range []int{1, 2, 3, 64} {
			for at := range n {
				l := rows(times(n, text("a"))...)
				l[at] = one.r
				samePack(t, texts, l, one.e)
			}
		}
		for _, other := range wrong {
			samePack(t, texts, []api.Row{one.r, other.r}, one.e)
			samePack(t, texts, []api.Row{values(text("")), one.r, values(text("a")), other.r}, one.e)
			samePack(t, texts, append(rows(times(62, text("a"))...), one.r, other.r), one.e)
		}
		// Rows that are too long together are looked at behind each row by itself; so are too many ahead of it.
		samePack(t, texts, append(rows(times(3, long(1024))...), one.r), one.e)
		samePack(t, texts, append([]api.Row{one.r}, rows(times(3, long(1024))...)...), one.e)
		samePack(t, texts, append(rows(times(63, long(1024))...), one.r), one.e)
		samePack(t, texts, append(rows(times(64, text("a"))...), one.r), api.ErrMany)
		samePack(t, texts, append([]api.Row{one.r}, rows(times(64, text("a"))...)...), api.ErrMany)
	}
}

// TestBytes: P11.1, P11.2: rows of just 2048 bytes together, of one fewer and one more.
func TestBytes(t *testing.T) {
	for _, first := range []int{1, 2, 100, 128, 500, 1023, 1024} {
		for _, third := range []int{1, 7, 128, 1000, 1024} {
			for sum := 2040; sum <= 2056; sum++ {
				second := sum - first - third
				if second > 1024 || second == 129 || second < 1 {
					continue
				}
				want := api.OK
				if sum > 2048 {
					want = api.ErrLong
				}
				samePack(t, texts, rows(long(first), long(second), long(third)), want)
				samePack(t, texts, rows(long(second), long(third), long(first)), want)
			}
		}
	}
	for _, n := range []int{2, 3, 5, 16, 33, 64} {
		for sum := 2046; sum <= 2050; sum++ {
			l := times(n, long(min(sum/n, 1023)))
			rest := sum - (n-1)*min(sum/n, 1023)
			l[n-1] = long(min(rest, 1024))
			asPacked(t, texts, rows(l...))
		}
	}
	full := times(64, long(32))
	samePack(t, texts, rows(full...), api.OK)
	for at := range full {
		l := slices.Clone(full)
		l[at] = long(33)
		samePack(t, texts, rows(l...), api.ErrLong)
		l[at] = long(31)
		samePack(t, texts, rows(l...), api.OK)
		if n, _ := batch.Size(texts, rows(l...)); n != 2047 {
			t.Fatalf("Size: %d", n)
		}
	}
	// Other kinds: 64 rows of four floats, and a Bool more in one.
	floats := of(plain("a", listOf(ofFloat)), plain("b", listOf(ofBool)))
	l := slices.Repeat([]api.Row{values(list(times(3, float(1))...), list(times(6, boolean(1))...))}, 64)
	samePack(t, floats, l, api.OK)
	if n, _ := batch.Size(floats, l); n != 2048 {
		t.Fatalf("Size: %d", n)
	}
	l[40] = values(list(times(3, float(1))...), list(times(7, boolean(1))...))
	samePack(t, floats, l, api.ErrLong)
	// A row that is too long by itself.
	samePack(t, texts, rows(text(strings.Repeat("x", 1022))), api.OK)
	samePack(t, texts, rows(text(strings.Repeat("x", 1023))), api.ErrLong)
	samePack(t, alone(listOf(ofFloat)), rows(list(times(127, float(1))...)), api.OK)
	samePack(t, alone(listOf(ofFloat)), rows(list(times(128, float(1))...)), api.ErrLong)
}

// unlikeRows are rows that are packed raw, and such that are packed as tokens, of all kinds and at their edges.
func unlikeRows() []group {
	all := of(plain("b", ofBool), plain("i", ofInt), plain("f", ofFloat), plain("t", ofText), plain("y", ofBytes), plain("o", optOf(ofText)), plain("l", listOf(optOf(ofFloat))))
	first := values(boolean(1), number(math.MinInt64), nan(nanBits[8]), text("\u20ac"), rawBytes("\xff\x00"), opt(text("")), list(opt(float(minusZero)), opt(), opt(nan(nanBits[1]))))
	second := values(boolean(0), number(math.MaxInt64), float(minusZero), text(""), rawBytes(""), opt(), list())
	var nans []api.Value
	for _, bits := range nanBits {
		nans = append(nans, nan(bits))
	}
	noise := string(mixedBytes(7, 1000))
	return []group{
		{ints, rows(number(0))}, {ints, rows(times(64, number(0))...)}, {alone(ofFloat), rows(float(minusZero))}, {alone(ofFloat), rows(float(0), float(minusZero), float(0))},
		{alone(ofFloat), rows(nans...)}, {alone(listOf(ofFloat)), rows(list(nans...), list(), list(float(minusZero)))}, {alone(optOf(ofFloat)), rows(opt(nans[3]), opt(), opt(float(minusZero)))},
		{texts, rows(text(""))}, {texts, rows(times(64, text(""))...)}, {alone(ofBytes), rows(rawBytes(""), rawBytes("\x00"), rawBytes(""))}, {alone(ofBytes), rows(rawBytes(noise))}, {alone(ofBytes), rows(rawBytes(noise), rawBytes(noise))},
		{alone(optOf(optOf(ofInt))), rows(opt(), opt(opt()), opt(opt(number(0))), opt(opt(number(-1))))}, {alone(listOf(listOf(ofBool))), rows(list(), list(list()), list(list(), list(boolean(1)), list()))}, {alone(listOf(ofBool)), rows(list(times(256, boolean(0))...), list())},
		{all, []api.Row{first}}, {all, []api.Row{first, second, first}}, {all, slices.Repeat([]api.Row{second, first}, 20)}, {all, slices.Repeat([]api.Row{second}, 64)},
	}
}

// TestUnlikeRows: P11.2, P11.4: rows of a -0, of NaNs, of empty texts and bytes, of Opts and lists, packed raw and as tokens.
func TestUnlikeRows(t *testing.T) {
	begins := [2]int{}
	for _, one := range unlikeRows() {
		samePack(t, one.s, one.l, api.OK)
		p, _ := batch.Pack(one.s, one.l)
		begins[p[0]]++
	}
	if begins[0] < 5 || begins[1] < 5 {
		t.Errorf("%d were packed raw, %d as tokens", begins[0], begins[1])
	}
}

// TestSameRowsSameBytes: P11.2, R6: rows that are the same have the same bytes, whatever NaN they hold, and however their empty lists are made.
func TestSameRowsSameBytes(t *testing.T) {
	s := of(plain("f", ofFloat), plain("l", listOf(optOf(ofFloat))))
	make := func(bits uint64, none []api.Value) []api.Row {
		return []api.Row{values(nan(bits), list(opt(nan(bits)), opt(none...))), values(nan(bits), list(none...))}
	}
	want, e := batch.Pack(s, make(theNaN, nil))
	if e != api.OK {
		t.Fatal(e)
	}
	for _, bits := range nanBits {
		for _, none := range [][]api.Value{nil, {}} {
			if p, e := batch.Pack(s, make(bits, none)); e != api.OK || !bytes.Equal(p, want) {
				t.Errorf("Pack of %x: %x, %d, want %x", bits, p, e, want)
			}
		}
	}
	zero, _ := batch.Pack(alone(ofFloat), rows(float(0)))
	if minus, _ := batch.Pack(alone(ofFloat), rows(float(minusZero))); bytes.Equal(zero, minus) {
		t.Errorf("0 and -0 are packed alike: %x", zero)
	}
	// The defaults of a schema, and the names of its columns, are not packed.
	for _, other := range []api.Schema{of(plain("z", ofInt)), of(with("a", ofInt, number(1)))} {
		p, _ := batch.Pack(ints, rows(number(1), number(2)))
		if q, e := batch.Pack(other, rows(number(1), number(2))); e != api.OK || !bytes.Equal(p, q) {
			t.Errorf("Pack under %s: %x, %d, want %x", columns(other), q, e, p)
		}
	}
}

// TestMixedRows: P11.1, P11.2, P11.4: mixed schemas and rows, right ones and wrong ones.
func TestMixedRows(t *testing.T) {
	seen := map[api.Errno]int{}
	for _, one := range manyGroups() {
		seen[asPacked(t, one.s, one.l)]++
	}
	if seen[api.OK] < 1500 {
		t.Errorf("only %d were right: %v", seen[api.OK], seen)
	}
	for _, e := range []api.Errno{api.ErrLong, api.ErrMany, api.ErrEmpty, api.ErrType, api.ErrKind, api.ErrName, api.ErrTwice, api.ErrUtf} {
		if seen[e] < 5 {
			t.Errorf("only %d were %d: %v", seen[e], e, seen)
		}
	}
}

func FuzzPack(f *testing.F) {
	for k := range uint64(8) {
		f.Add(mixedBytes(k, 300))
	}
	f.Fuzz(func(t *testing.T, b []byte) {
		r := source{b}
		one := r.group()
		asPacked(t, one.s, one.l)
	})
}
