package schema_test

import (
	"math"
	"slices"
	"strings"
	"testing"

	"gabion/api"
	"gabion/schema"
	"gabion/value"
)

func sameCheck(t *testing.T, s api.Schema, want api.Errno) {
	t.Helper()
	if e := schema.Check(s); e != want {
		t.Fatalf("Check(%.300s): %d, want %d", exact(s), e, want)
	}
	if e := wordCheck(s); e != want {
		t.Fatalf("by the words Check(%.300s) is %d, not %d", exact(s), e, want)
	}
	sameEncode(t, s)
}

func sameType(t *testing.T, of api.Type, want api.Errno) {
	t.Helper()
	if e := schema.CheckType(of); e != want {
		t.Fatalf("CheckType(%s): %d, want %d", exactType(of), e, want)
	}
	if e := wordType(of); e != want {
		t.Fatalf("by the words CheckType(%s) is %d, not %d", exactType(of), e, want)
	}
}

func sameName(t *testing.T, s string, want bool) {
	t.Helper()
	if schema.Name(s) != want {
		t.Fatalf("Name(%q), want %v", s, want)
	}
	if wordName(s) != want {
		t.Fatalf("by the words Name(%q) is not %v", s, want)
	}
}

func sameIs(t *testing.T, v api.Value, of api.Type, want bool) {
	t.Helper()
	if schema.Is(v, of) != want {
		t.Fatalf("Is(%.300s, %s), want %v", exactValue(v), exactType(of), want)
	}
	if words := wordType(of) == api.OK && value.Check(v) == api.OK && wordIsOf(v, of); words != want {
		t.Fatalf("by the words Is(%.300s, %s) is %v", exactValue(v), exactType(of), words)
	}
}

// sameSame asks Same both ways round.
func sameSame(t *testing.T, a, b api.Schema, want bool) {
	t.Helper()
	if schema.Same(a, b) != want || schema.Same(b, a) != want {
		t.Fatalf("Same(%.300s, %.300s): %v and back %v, want %v", exact(a), exact(b), schema.Same(a, b), schema.Same(b, a), want)
	}
}

// sameSameType asks SameType both ways round, and Same of schemas with these types.
func sameSameType(t *testing.T, a, b api.Type, want bool) {
	t.Helper()
	if schema.SameType(a, b) != want || schema.SameType(b, a) != want {
		t.Fatalf("SameType(%.300s, %.300s), want %v", exactType(a), exactType(b), want)
	}
	sameSame(t, of(plain("a", ofInt), plain("b", a)), of(plain("a", ofInt), plain("b", b)), want)
}

func sameFind(t *testing.T, s api.Schema, name string, place int, found bool) {
	t.Helper()
	if at, is := schema.Find(s, name); at != place || is != found {
		t.Fatalf("Find(%.300s, %q): %d, %v, want %d, %v", exact(s), name, at, is, place, found)
	}
}

// TestExamples: the chapter's examples.
func TestExamples(t *testing.T) {
	small := of(plain("a", ofInt), with("b", optOf(ofText), opt()))
	if b, e := schema.Encode(small); e != api.OK || string(b) != "\x02\x01a\x02\x00\x01b\x06\x04\x01\x00" {
		t.Fatalf("Encode: %x, %d", b, e)
	}
	sameCheck(t, api.Schema{}, api.ErrEmpty)
	sameCheck(t, wide(17), api.ErrMany)
	sameCheck(t, of(plain("A", ofInt)), api.ErrName)
	sameCheck(t, of(plain("a", ofInt), plain("a", ofInt)), api.ErrTwice)
	sameCheck(t, of(plain("a", kind(8))), api.ErrKind)
	sameCheck(t, of(plain("a", within(4, api.List, ofInt))), api.ErrDeep)
	sameCheck(t, of(with("a", ofText, number(5))), api.ErrType)
	sameCheck(t, of(api.Column{Name: "a", Type: ofInt, Default: api.Value{Kind: api.Int}}), api.ErrType)
	for _, one := range []struct {
		b string
		e api.Errno
	}{
		{"", api.ErrShort}, {"\x00", api.ErrEmpty}, {"\x11", api.ErrMany}, {"\x01\x00", api.ErrName}, {"\x01\x01", api.ErrShort}, {"\x01\x01\x41", api.ErrName}, {"\x01\x01\x61", api.ErrShort},
		{"\x01\x01\x61\x08", api.ErrKind}, {"\x01\x01\x61\x02", api.ErrShort}, {"\x01\x01\x61\x02\x02", api.ErrForm}, {"\x01\x01\x61\x02\x00\x00", api.ErrForm},
		{"\x01\x01\x61\x07\x07\x07\x07", api.ErrDeep}, {"\x01\x01\x61\x03\x01" + strings.Repeat("\xff", 8), api.ErrForm},
	} {
		sameDecode(t, one.b, one.e)
	}
	sameIs(t, opt(number(5)), optOf(ofInt), true)
	sameIs(t, list(number(5), text("a")), listOf(ofInt), false)
	sameIs(t, boolean(2), ofBool, false)
}

// TestTypeKinds: P7.1: which kinds there are, and of how many types each of them is.
func TestTypeKinds(t *testing.T) {
	for k := -300; k <= 300; k++ {
		for n := range 4 {
			want := api.ErrKind
			if k >= 1 && k <= 5 && n == 0 || (k == 6 || k == 7) && n == 1 {
				want = api.OK
			}
			one := kind(k, slices.Repeat([]api.Type{ofInt}, n)...)
			sameType(t, one, want)
			sameType(t, listOf(one), want)
			sameType(t, within(2, api.Opt, one), want)
			sameCheck(t, of(plain("a", one)), want)
		}
	}
	for _, k := range []int{math.MaxInt, math.MinInt, 1<<32 + 1, 1<<8 + 1, 1<<8 + 7} {
		sameType(t, kind(k), api.ErrKind)
		sameType(t, kind(k, ofInt), api.ErrKind)
	}
	sameType(t, api.Type{Kind: api.Int, Of: []api.Type{}}, api.OK)
	sameType(t, api.Type{Kind: api.List, Of: []api.Type{}}, api.ErrKind)
}

// TestTypeDepth: P7.1: types of the depth MaxDepth and deeper ones, under lists and Opts.
func TestTypeDepth(t *testing.T) {
	for _, one := range []api.Type{ofBool, ofInt, ofFloat, ofText, ofBytes, kind(8), kind(0), kind(api.Opt), kind(api.List), kind(api.Int, ofInt), kind(api.List, ofInt, ofInt)} {
		for n := range 9 {
			want := wordType(one)
			if n >= 4 {
				want = api.ErrDeep
			}
			sameType(t, within(n, api.List, one), want)
			sameType(t, within(n, api.Opt, one), want)
			sameCheck(t, of(plain("a", within(n, api.List, one))), want)
		}
	}
	sameType(t, within(3, api.List, listOf(ofInt)), api.ErrDeep)
	sameType(t, within(2, api.List, optOf(ofInt)), api.OK)
	sameType(t, listOf(kind(api.Opt, within(9, api.List, ofInt), ofInt)), api.ErrKind)
	sameType(t, kind(9, within(9, api.List, ofInt)), api.ErrKind)
	sameType(t, within(1<<16-1, api.List, ofInt), api.ErrDeep)
}

// TestName: P7.2: names of each length, of each sign in the first place and behind it.
func TestName(t *testing.T) {
	sameName(t, "", false)
	for n := 1; n <= 40; n++ {
		sameName(t, strings.Repeat("a", n), n <= 16)
		sameName(t, "z"+strings.Repeat("_", n-1), n <= 16)
		sameName(t, strings.Repeat("\u00e9", n), false)
	}
	for c := range 256 {
		sign := string([]byte{byte(c)})
		letter := c >= 'a' && c <= 'z'
		behind := letter || c >= '0' && c <= '9' || c == '_'
		sameName(t, sign, letter)
		sameName(t, sign+"a", letter)
		sameName(t, "a"+sign, behind)
		sameName(t, "a"+sign+"a", behind)
		sameName(t, "a"+sign+strings.Repeat("b", 14), behind)
		sameName(t, strings.Repeat("z", 15)+sign, behind)
		sameName(t, strings.Repeat("z", 16)+sign, false)
		for d := range 256 {
			two := sign + string([]byte{byte(d)})
			sameName(t, two, wordName(two))
		}
	}
	for _, s := range []string{"a\u00e9", "\uff41", "a\u0660", "a ", " a", "a\n", "a\x00", "a.b", "A", "aB", "_a", "9a", "`a", "{a", "a/", "a:", "a^", "a`", "a{", "a@", "a["} {
		sameName(t, s, false)
	}
}

// TestCheckNames: P7.2, P7.3: columns with each of these names.
func TestCheckNames(t *testing.T) {
	for c := range 256 {
		for _, name := range []string{string([]byte{byte(c)}), "x" + string([]byte{byte(c)})} {
			want := api.ErrName
			if wordName(name) {
				want = api.OK
			}
			sameCheck(t, of(plain(name, ofInt)), want)
			sameCheck(t, of(plain("q", ofInt), plain(name+"_", ofInt)), want)
		}
	}
	for _, name := range wrongNames {
		sameCheck(t, of(plain(name, ofInt)), api.ErrName)
		sameCheck(t, of(plain("a", ofInt), plain(name, ofInt)), api.ErrName)
	}
	sameCheck(t, of(plain(strings.Repeat("a", 16), ofInt), plain(strings.Repeat("a", 15), ofInt)), api.OK)
}

// TestCheckCount: P7.3: no column, one, as many as may be, more.
func TestCheckCount(t *testing.T) {
	sameCheck(t, api.Schema{Columns: []api.Column{}}, api.ErrEmpty)
	for n := range 40 {
		want := api.OK
		switch {
		case n == 0:
			want = api.ErrEmpty
		case n > 16:
			want = api.ErrMany
		}
		sameCheck(t, wide(n), want)
	}
	// Too many are too many, whatever they are.
	sameCheck(t, api.Schema{Columns: make([]api.Column, 17)}, api.ErrMany)
	sameCheck(t, api.Schema{Columns: make([]api.Column, 16)}, api.ErrName)
	sameCheck(t, api.Schema{Columns: make([]api.Column, 5000)}, api.ErrMany)
}

// TestCheckTwice: P7.3: a name twice, in every two places.
func TestCheckTwice(t *testing.T) {
	for n := 2; n <= 16; n++ {
		for b := range n {
			for a := range b {
				s := wide(n)
				s.Columns[b].Name = s.Columns[a].Name
				sameCheck(t, s, api.ErrTwice)
				s.Columns[b].Type = kind(9)
				sameCheck(t, s, api.ErrTwice)
				s.Columns[a].Type = kind(9)
				sameCheck(t, s, api.ErrKind)
			}
		}
	}
	sameCheck(t, of(plain("ab", ofInt), plain("a", ofInt), plain("b", ofInt), plain("ba", ofInt), plain("a_", ofInt)), api.OK)
}

// ofEachType is a value of each type of a few, none of which is of another one of them (but for empty ones).
var ofEachType = []struct {
	t api.Type
	v api.Value
}{
	{ofBool, boolean(1)}, {ofInt, number(1)}, {ofFloat, float(1)}, {ofText, text("a")}, {ofBytes, rawBytes("a")},
	{optOf(ofInt), opt(number(1))}, {optOf(ofBool), opt(boolean(1))}, {listOf(ofInt), list(number(1), number(2))}, {listOf(ofBool), list(boolean(0))},
	{listOf(optOf(ofText)), list(opt(text("b")), opt())}, {listOf(optOf(ofBytes)), list(opt(), opt(rawBytes("b")))}, {optOf(listOf(ofInt)), opt(list(number(3)))},
	{within(3, api.List, ofInt), list(list(list(number(1))))}, {within(3, api.List, ofFloat), list(list(list(float(minusZero))))}, {within(3, api.Opt, ofText), opt(opt(opt(text(""))))},
	{within(2, api.List, ofInt), list(list(number(1)))},
}

// TestDefaults: P7.3, P7.5: a default of each type under each type.
func TestDefaults(t *testing.T) {
	for i, a := range ofEachType {
		for k, b := range ofEachType {
			want := api.ErrType
			if i == k {
				want = api.OK
			}
			sameCheck(t, of(with("a", a.t, b.v)), want)
			sameCheck(t, of(plain("z", ofInt), with("a", a.t, b.v)), want)
			sameIs(t, b.v, a.t, i == k)
		}
		sameCheck(t, of(with("a", a.t, api.Value{})), api.ErrKind)
		sameIs(t, api.Value{}, a.t, false)
	}
	sameCheck(t, of(with("a", listOf(ofInt), list())), api.OK)
	sameCheck(t, of(with("a", optOf(ofInt), opt())), api.OK)
	sameCheck(t, of(with("a", optOf(ofInt), list())), api.ErrType)
	sameCheck(t, of(with("a", listOf(ofInt), opt())), api.ErrType)
}

// TestDefaultItems: P7.3, P7.5: one of a list's Items that is of another type, wherever it stands.
func TestDefaultItems(t *testing.T) {
	for n := 1; n <= 20; n++ {
		for at := range n {
			items := times(n, number(3))
			items[at] = boolean(1)
			sameCheck(t, of(with("a", listOf(ofInt), list(items...))), api.ErrType)
			sameIs(t, list(items...), listOf(ofInt), false)
			sameIs(t, opt(list(items...)), optOf(listOf(ofInt)), false)
			sameIs(t, list(list(), list(items...)), within(2, api.List, ofInt), false)
			items[at] = boolean(2)
			sameCheck(t, of(with("a", listOf(ofInt), list(items...))), api.ErrKind)
		}
		sameIs(t, list(times(n, number(3))...), listOf(ofInt), true)
	}
	sameIs(t, list(times(256, number(3))...), listOf(ofInt), true)
	sameIs(t, list(times(257, number(3))...), listOf(ofInt), false)
}

// wrongValues are values that may not be, each with its error.
var wrongValues = []struct {
	v api.Value
	e api.Errno
}{
	{api.Value{}, api.ErrKind}, {api.Value{Kind: 8}, api.ErrKind}, {api.Value{Kind: -1}, api.ErrKind}, {boolean(2), api.ErrKind}, {boolean(-1), api.ErrKind},
	{api.Value{Kind: api.Int, Text: "a"}, api.ErrKind}, {api.Value{Kind: api.Int, Float: minusZero}, api.ErrKind}, {api.Value{Kind: api.Float, Int: 1}, api.ErrKind}, {api.Value{Kind: api.Bool, Items: times(1, number(1))}, api.ErrKind},
	{opt(number(1), number(1)), api.ErrKind}, {list(api.Value{}), api.ErrKind}, {opt(boolean(2)), api.ErrKind}, {text("\xff"), api.ErrUtf}, {list(text("a"), text("\xc3")), api.ErrUtf},
	{text(strings.Repeat("a", 1025)), api.ErrLong}, {rawBytes(strings.Repeat("a", 1025)), api.ErrLong}, {list(times(257, number(1))...), api.ErrMany}, {list(list(list(list(number(1))))), api.ErrDeep}, {opt(opt(opt(opt(opt())))), api.ErrDeep},
}

// TestWrongDefaults: P7.3, P7.5: a default that may not be has its own error ahead of ErrType.
func TestWrongDefaults(t *testing.T) {
	for _, wrong := range wrongValues {
		for _, one := range ofEachType {
			sameCheck(t, of(with("a", one.t, wrong.v)), wrong.e)
			sameCheck(t, of(plain("b", ofInt), with("a", one.t, wrong.v), plain("b", ofInt)), wrong.e)
			sameIs(t, wrong.v, one.t, false)
		}
		sameCheck(t, of(with("a", kind(api.List), wrong.v)), api.ErrKind)
		sameCheck(t, of(with("a", within(4, api.List, ofInt), wrong.v)), api.ErrDeep)
	}
}

// TestNoDefault: P7.3: where Has is false each field of Default is zero, or it is ErrType.
func TestNoDefault(t *testing.T) {
	wrong := []api.Value{{Float: minusZero}, {Float: 1}, {Float: math.Inf(-1)}, {Float: math.SmallestNonzeroFloat64}, {Text: "\x00"}, {Text: "a"}, {Text: strings.Repeat("a", 2000)}, {Items: []api.Value{{}}}, {Items: make([]api.Value, 300)}, list(), opt(), text(""), number(0), boolean(0), float(0)}
	for _, k := range []int{-1, 1, 2, 3, 4, 5, 6, 7, 8, math.MaxInt, math.MinInt, 1 << 32} {
		wrong = append(wrong, api.Value{Kind: k})
	}
	for _, n := range []int64{1, -1, 1 << 32, math.MaxInt64, math.MinInt64} {
		wrong = append(wrong, api.Value{Int: n})
	}
	for _, bits := range nanBits {
		wrong = append(wrong, api.Value{Float: math.Float64frombits(bits)})
	}
	for _, w := range wrongValues[1:] {
		wrong = append(wrong, w.v)
	}
	for _, one := range ofEachType {
		for _, v := range append(wrong, one.v) {
			c := api.Column{Name: "a", Type: one.t, Default: v}
			sameCheck(t, of(c), api.ErrType)
			sameCheck(t, of(plain("b", ofInt), c, plain("b", ofInt)), api.ErrType)
			sameCheck(t, of(api.Column{Name: "A", Type: one.t, Default: v}), api.ErrName)
		}
		sameCheck(t, of(plain("a", one.t)), api.OK)
		sameCheck(t, of(api.Column{Name: "a", Type: one.t, Default: api.Value{Items: []api.Value{}}}), api.OK)
	}
}

// TestFirstOfColumn: P7.3: which error of a column comes first; of several columns the first one's.
func TestFirstOfColumn(t *testing.T) {
	wrong := []struct {
		c api.Column
		e api.Errno
	}{
		{with("A", kind(8), api.Value{}), api.ErrName}, {with("", within(9, api.List, ofInt), number(1)), api.ErrName}, {with("q", kind(8), api.Value{}), api.ErrTwice}, {api.Column{Name: "q", Type: ofInt, Default: number(1)}, api.ErrTwice},
		{with("a", kind(8), text("\xff")), api.ErrKind}, {api.Column{Name: "a", Type: kind(8), Default: number(1)}, api.ErrKind}, {with("a", within(4, api.Opt, ofInt), text("\xff")), api.ErrDeep},
		{with("a", ofInt, text("\xff")), api.ErrUtf}, {with("a", ofText, rawBytes(strings.Repeat("a", 1025))), api.ErrLong}, {with("a", ofText, list(times(257, number(1))...)), api.ErrMany},
		{with("a", ofInt, text("a")), api.ErrType}, {api.Column{Name: "a", Type: ofInt, Default: number(1)}, api.ErrType},
	}
	for _, first := range wrong {
		sameCheck(t, of(plain("q", ofInt), first.c), first.e)
		for _, second := range wrong {
			sameCheck(t, of(plain("q", ofInt), first.c, second.c), first.e)
			sameCheck(t, of(plain("q", ofInt), first.c, plain("b", ofInt), second.c), first.e)
		}
		// The bytes are counted behind the last column.
		long := with("l", ofBytes, rawBytes(strings.Repeat("a", 1024)))
		sameCheck(t, of(long, plain("q", ofInt), first.c), first.e)
		sameCheck(t, of(plain("q", ofInt), first.c, long), first.e)
	}
}

// longOf is a schema whose bytes are just that many: fill makes a column of n bytes more than of 0.
func longOf(t *testing.T, total int, ahead []api.Column, fill func(n int) api.Column) api.Schema {
	t.Helper()
	for n := range total {
		s := of(append(slices.Clone(ahead), fill(n))...)
		if len(wordBytes(s)) == total {
			return s
		}
	}
	t.Fatalf("no schema of %d bytes", total)
	return api.Schema{}
}

// TestLong: P7.3, P7.6, P7.9: schemas of MaxSchema bytes and one more, with all kinds of defaults.
func TestLong(t *testing.T) {
	fills := []func(n int) api.Column{
		func(n int) api.Column { return with("f", ofText, text(strings.Repeat("a", n))) },
		func(n int) api.Column { return with("f", ofBytes, rawBytes(strings.Repeat("\xff", n))) },
		func(n int) api.Column { return with("f", optOf(ofText), opt(text(strings.Repeat("a", n)))) },
		func(n int) api.Column {
			return with("f", listOf(ofBytes), list(append(times(200, rawBytes("ab")), rawBytes(strings.Repeat("c", n)))...))
		},
	}
	aheads := [][]api.Column{nil, wide(15).Columns, {with("i", ofInt, number(math.MinInt64)), with("d", ofFloat, nan(0xfff8000000000000)), plain("t", within(3, api.List, ofText))}}
	for _, fill := range fills {
		for _, ahead := range aheads {
			for total := 1020; total <= 1030; total++ {
				want := api.OK
				if total > 1024 {
					want = api.ErrLong
				}
				sameCheck(t, longOf(t, total, ahead, fill), want)
			}
		}
	}
}

// TestLongLists: P7.3, P7.6: lists that grow by a bool, by a float, and where they come to be too long.
func TestLongLists(t *testing.T) {
	for n := range 1100 {
		var lists []api.Value
		for left := n; left > 0; left -= 100 {
			lists = append(lists, list(times(min(left, 100), boolean(1))...))
		}
		want := api.OK
		// 01, 01 66, 07 07 01, 01, how many; each list with its own byte.
		if 8+len(lists)+n > 1024 {
			want = api.ErrLong
		}
		sameCheck(t, of(with("f", within(2, api.List, ofBool), list(lists...))), want)
	}
	for n := range 257 {
		// 01, 01 66, 07 03, 01, how many in one byte or in two.
		size := 7 + 8*n
		if n > 127 {
			size++
		}
		want := api.OK
		if size > 1024 {
			want = api.ErrLong
		}
		sameCheck(t, of(with("f", listOf(ofFloat), list(times(n, float(minusZero))...))), want)
	}
	// Sixteen columns of 64 bytes, and the byte that says how many they are.
	sixteen := wide(16)
	for i := range sixteen.Columns {
		c := &sixteen.Columns[i]
		*c = with(c.Name, ofBytes, rawBytes(strings.Repeat("x", 64-4-len(c.Name))))
	}
	sameCheck(t, sixteen, api.ErrLong)
	sixteen.Columns[15].Default.Text = sixteen.Columns[15].Default.Text[1:]
	sameCheck(t, sixteen, api.OK)
}

// TestVeryLong: P7.3, R1: a default that would have billions of bytes is too long, and told so soon.
func TestVeryLong(t *testing.T) {
	items := func(v api.Value) api.Value { return list(times(256, v)...) }
	one := with("a", within(3, api.List, ofBytes), items(items(items(rawBytes(strings.Repeat("b", 1024))))))
	s := of(one)
	if e := schema.Check(s); e != api.ErrLong {
		t.Fatalf("Check: %d", e)
	}
	if b, e := schema.Encode(s); e != api.ErrLong || len(b) != 0 {
		t.Fatalf("Encode: %d bytes, %d", len(b), e)
	}
}

// TestNaNDefaults: P7.3 to P7.6, R6: whatever bits a NaN of a default has.
func TestNaNDefaults(t *testing.T) {
	of1 := func(v api.Value) api.Schema {
		return of(plain("a", ofInt), with("f", ofFloat, v), with("l", listOf(optOf(ofFloat)), list(opt(v), opt(), opt(v))))
	}
	for _, a := range nanBits {
		sameCheck(t, of1(nan(a)), api.OK)
		sameIs(t, nan(a), ofFloat, true)
		sameIs(t, list(opt(nan(a))), listOf(optOf(ofFloat)), true)
		for _, b := range nanBits {
			sameSame(t, of1(nan(a)), of1(nan(b)), true)
		}
		for _, x := range otherFloats {
			sameSame(t, of1(nan(a)), of1(float(x)), false)
		}
	}
	for i, x := range otherFloats {
		for k, y := range otherFloats {
			sameSame(t, of1(float(x)), of1(float(y)), i == k)
		}
	}
}

// TestSameType: P7.4: types that may be and such that may not, each the same as itself alone.
func TestSameType(t *testing.T) {
	var l []api.Type
	for k := -1; k <= 9; k++ {
		l = append(l, kind(k), kind(k, ofInt), kind(k, ofInt, ofInt), kind(k, ofInt, ofText), kind(k, ofText, ofInt), kind(k, kind(k, kind(k))), kind(k, ofBool, listOf(ofInt)), kind(k, listOf(ofInt), ofBool), kind(k, ofInt, ofInt, ofInt))
	}
	for n := 4; n < 9; n++ {
		l = append(l, within(n, api.List, ofInt), within(n, api.List, ofText), within(n, api.Opt, ofInt))
	}
	l = append(l, kind(math.MaxInt), kind(math.MinInt), kind(1<<32+api.Int), kind(1<<8+api.Int))
	for i, a := range l {
		for k, b := range l {
			sameSameType(t, a, b, i == k)
			sameSameType(t, listOf(a), listOf(b), i == k)
			sameSameType(t, kind(3, ofInt, a), kind(3, ofInt, b), i == k)
			sameSameType(t, kind(3, a, ofInt), kind(3, b, ofInt), i == k)
		}
	}
	sameSameType(t, api.Type{Kind: 2}, api.Type{Kind: 2, Of: []api.Type{}}, true)
	deep := within(1<<16-1, api.List, ofInt)
	sameDeep := schema.SameType(deep, within(1<<16-1, api.List, ofInt))
	if !sameDeep || schema.SameType(deep, within(1<<16-1, api.List, ofText)) || schema.SameType(deep, within(1<<16-2, api.List, ofInt)) {
		t.Fatal("SameType of very deep types")
	}
}

// TestSame: P7.4: columns that are unlike in each field, schemas of unlike length.
func TestSame(t *testing.T) {
	columns := []api.Column{
		{}, plain("a", ofInt), plain("b", ofInt), plain("A", ofInt), plain("", ofInt), plain("a\x00", ofInt), plain("a", ofText), plain("a", kind(8)), plain("a", optOf(ofInt)), plain("a", kind(api.Int, ofInt)),
		{Name: "a", Type: ofInt, Has: true}, {Name: "a", Type: ofInt, Default: number(5)}, with("a", ofInt, number(5)), with("a", ofInt, number(6)), with("a", ofInt, number(0)), with("a", ofInt, text("")), with("b", ofInt, number(5)), with("a", ofText, number(5)),
		{Name: "a", Type: ofInt, Default: api.Value{Float: minusZero}}, {Name: "a", Type: ofInt, Has: true, Default: api.Value{Float: minusZero}}, with("a", ofFloat, float(0)), with("a", ofFloat, float(minusZero)), with("a", ofFloat, nan(theNaN)),
		with("a", listOf(ofInt), list()), with("a", listOf(ofInt), list(number(1))), with("a", listOf(ofInt), list(number(1), number(2))), with("a", listOf(ofInt), list(number(2), number(1))), with("a", listOf(ofInt), opt(number(1))),
		with("a", ofText, text("\xff")), with("a", ofText, text("\xfe")), with("a", ofText, text(strings.Repeat("a", 2000))), with("a", ofText, text(strings.Repeat("a", 2001))),
	}
	for i, a := range columns {
		for k, b := range columns {
			sameSame(t, of(a), of(b), i == k)
			sameSame(t, of(a, plain("z", ofInt)), of(b, plain("z", ofInt)), i == k)
			sameSame(t, of(plain("z", ofInt), plain("z", ofInt), a), of(plain("z", ofInt), plain("z", ofInt), b), i == k)
			sameSame(t, of(a, b), of(b, a), i == k)
			sameSame(t, of(a, b), of(a), false)
		}
	}
	for n := range 40 {
		for m := range 40 {
			sameSame(t, wide(n), wide(m), n == m)
			sameSame(t, api.Schema{Columns: make([]api.Column, n)}, api.Schema{Columns: make([]api.Column, m)}, n == m)
		}
	}
	sameSame(t, api.Schema{}, api.Schema{Columns: []api.Column{}}, true)
}

// TestSameOfAll: P7.4: mixed schemas: the same just if what they hold is, fixed.
func TestSameOfAll(t *testing.T) {
	l := manySchemas()
	told := make([]string, len(l))
	for i, s := range l {
		told[i] = fixed(s)
	}
	for i, a := range l {
		sameSame(t, a, a, true)
		for k := i % 41; k < len(l); k += 41 {
			if want := told[i] == told[k]; schema.Same(a, l[k]) != want {
				t.Fatalf("Same(%.300s, %.300s), want %v", told[i], told[k], want)
			}
		}
	}
}

// TestIs: P7.5: types and values that may not be; values that hold nothing.
func TestIs(t *testing.T) {
	for _, one := range []api.Type{{}, kind(8), kind(-1), kind(api.Opt), kind(api.List), kind(api.Int, ofInt), kind(api.List, ofInt, ofInt), kind(api.Opt, ofInt, ofInt), within(4, api.List, ofInt), within(4, api.Opt, ofInt), listOf(kind(0)), listOf(kind(api.Int, ofInt))} {
		for _, v := range []api.Value{{}, {Kind: 8}, {Kind: -1}, number(1), opt(), list(), opt(number(1)), list(number(1)), list(list(list(list()))), opt(opt(opt(opt()))), list(api.Value{})} {
			sameIs(t, v, one, false)
		}
	}
	for k := 1; k <= 7; k++ {
		for n := 1; n <= 7; n++ {
			one := api.Type{Kind: n}
			if n >= 6 {
				one.Of = []api.Type{ofInt}
			}
			sameIs(t, api.Value{Kind: k}, one, k == n)
			sameIs(t, list(api.Value{Kind: k}), listOf(one), k == n)
			sameIs(t, opt(api.Value{Kind: k}), optOf(one), k == n)
			sameIs(t, list(list(), list(api.Value{Kind: k})), within(2, api.List, one), k == n)
		}
	}
	sameIs(t, list(), within(3, api.List, ofInt), true)
	sameIs(t, list(list(), list()), within(3, api.List, ofInt), true)
	sameIs(t, list(list(list())), within(3, api.List, ofInt), true)
	sameIs(t, list(list(list())), within(2, api.List, ofInt), false)
	sameIs(t, list(opt(), list()), listOf(optOf(ofInt)), false)
	sameIs(t, text("\xff"), ofText, false)
	sameIs(t, rawBytes("\xff"), ofBytes, true)
	sameIs(t, text(strings.Repeat("a", 1024)), ofText, true)
	sameIs(t, text(strings.Repeat("a", 1025)), ofText, false)
}

// TestIsOfAll: P7.5: mixed values of mixed types.
func TestIsOfAll(t *testing.T) {
	yes := 0
	for k := range uint64(6000) {
		r := source{mixedBytes(k, 80)}
		one := r.kinds(1)
		v := r.value(one)
		other := r.kinds(1)
		want := wordType(one) == api.OK && value.Check(v) == api.OK && wordIsOf(v, one)
		sameIs(t, v, one, want)
		sameIs(t, v, other, schema.Is(v, other) && wordIsOf(v, other))
		if want {
			yes++
		}
	}
	if yes < 3000 || yes > 5900 {
		t.Fatalf("%d of 6000 values are of their type", yes)
	}
}

// TestFind: P7.8: the first column of a name, in every place; names that are none; schemas that may not be.
func TestFind(t *testing.T) {
	sameFind(t, api.Schema{}, "a", 0, false)
	sameFind(t, api.Schema{}, "", 0, false)
	for n := range 40 {
		s := wide(n)
		for at, c := range s.Columns {
			sameFind(t, s, c.Name, at, true)
			twice := of(append(slices.Clone(s.Columns), s.Columns...)...)
			sameFind(t, twice, c.Name, at, true)
		}
		for _, name := range []string{"", "c", "c00", "C0", "c40", "c0 ", " c0", "c\x00"} {
			sameFind(t, s, name, 0, false)
		}
	}
	odd := of(plain("B", kind(8)), plain("", ofInt), plain("\xff", ofInt), plain("a", ofInt), plain("a", ofText), plain("", ofText), plain(strings.Repeat("x", 300), ofInt))
	sameFind(t, odd, "", 1, true)
	sameFind(t, odd, "B", 0, true)
	sameFind(t, odd, "\xff", 2, true)
	sameFind(t, odd, "\xfe", 0, false)
	sameFind(t, odd, "a", 3, true)
	sameFind(t, odd, "b", 0, false)
	sameFind(t, odd, strings.Repeat("x", 300), 6, true)
	sameFind(t, odd, strings.Repeat("x", 299), 0, false)
}

// TestCheck: P7.1 to P7.3: mixed schemas, held against the words.
func TestCheck(t *testing.T) {
	seen := map[api.Errno]int{}
	for _, s := range manySchemas() {
		want := wordCheck(s)
		sameCheck(t, s, want)
		seen[want]++
		for _, c := range s.Columns {
			sameType(t, c.Type, wordType(c.Type))
			sameName(t, c.Name, wordName(c.Name))
			at, is := schema.Find(s, c.Name)
			if !is || at != slices.IndexFunc(s.Columns, func(o api.Column) bool { return o.Name == c.Name }) {
				t.Fatalf("Find(%.300s, %q): %d, %v", exact(s), c.Name, at, is)
			}
		}
	}
	for _, e := range []api.Errno{api.OK, api.ErrEmpty, api.ErrMany, api.ErrName, api.ErrTwice, api.ErrKind, api.ErrDeep, api.ErrType, api.ErrUtf, api.ErrLong} {
		if seen[e] < 5 {
			t.Errorf("only %d schemas with the error %d", seen[e], e)
		}
	}
	if seen[api.OK] < 1000 {
		t.Errorf("only %d right schemas", seen[api.OK])
	}
}
