package value_test

import (
	"math"
	"slices"
	"strconv"
	"strings"
	"testing"
	"unicode/utf8"

	"gabion/api"
	"gabion/value"
)

const theNaN = 0x7ff8000000000000

var minusZero = math.Copysign(0, -1)

// nanBits are bits of NaNs: the one, and others, quiet and signalling ones, of either sign.
var nanBits = []uint64{
	theNaN, 0x7ff0000000000001, 0x7ff4000000000000, 0x7ff7ffffffffffff, 0x7ff8000000000001, 0x7fffffffffffffff,
	0xfff0000000000001, 0xfff7ffffffffffff, 0xfff8000000000000, 0xfff8000000000001, 0xffffffffffffffff,
}

// otherFloats are floats at the edges, unlike each other, no NaN.
var otherFloats = []float64{
	0, minusZero, 1, -1, 0.5, -0.5, math.Inf(1), math.Inf(-1), math.MaxFloat64, -math.MaxFloat64,
	math.SmallestNonzeroFloat64, -math.SmallestNonzeroFloat64, 1 << 53, -1 << 63,
}

func boolean(n int64) api.Value { return api.Value{Kind: api.Bool, Int: n} }

func number(n int64) api.Value { return api.Value{Kind: api.Int, Int: n} }

func float(x float64) api.Value { return api.Value{Kind: api.Float, Float: x} }

func nan(bits uint64) api.Value { return float(math.Float64frombits(bits)) }

func text(s string) api.Value { return api.Value{Kind: api.Text, Text: s} }

func rawBytes(s string) api.Value { return api.Value{Kind: api.Bytes, Text: s} }

func opt(items ...api.Value) api.Value { return api.Value{Kind: api.Opt, Items: items} }

func list(items ...api.Value) api.Value { return api.Value{Kind: api.List, Items: items} }

// times is v, n times.
func times(n int, v api.Value) []api.Value { return slices.Repeat([]api.Value{v}, n) }

// under is v within n lists.
func under(n int, v api.Value) api.Value {
	for range n {
		v = list(v)
	}
	return v
}

// mixed is the n-th of a row of well mixed words, the same ones in every run.
func mixed(n uint64) uint64 {
	z := (n + 1) * 0x9e3779b97f4a7c15
	z = (z ^ z>>30) * 0xbf58476d1ce4e5b9
	z = (z ^ z>>27) * 0x94d049bb133111eb
	return z ^ z>>31
}

func mixedBytes(seed uint64, n int) []byte {
	b := make([]byte, n)
	for i := range b {
		b[i] = byte(mixed(seed<<20 + uint64(i)))
	}
	return b
}

// show lays all that a value holds behind b, the floats by the bits that bits tells of them; unlike values have unlike texts.
func show(b []byte, v api.Value, bits func(x float64) uint64) []byte {
	b = strconv.AppendInt(append(b, '{'), int64(v.Kind), 10)
	b = strconv.AppendInt(append(b, ' '), v.Int, 10)
	b = strconv.AppendUint(append(b, ' '), bits(v.Float), 16)
	b = strconv.AppendQuote(append(b, ' '), v.Text)
	for _, item := range v.Items {
		b = show(b, item, bits)
	}
	return append(b, '}')
}

// exact is what a value holds, to the bit.
func exact(v api.Value) string { return string(show(nil, v, math.Float64bits)) }

// fixed is what a value holds, fixed, by the words.
func fixed(v api.Value) string {
	return string(show(nil, v, func(x float64) uint64 {
		if x != x {
			return theNaN
		}
		return math.Float64bits(x)
	}))
}

// has tells which fields are a kind's.
var has = map[int]struct{ Int, Float, Text, Items bool }{
	api.Bool: {Int: true}, api.Int: {Int: true}, api.Float: {Float: true},
	api.Text: {Text: true}, api.Bytes: {Text: true}, api.Opt: {Items: true}, api.List: {Items: true},
}

// wordOwn is the error that a value has at a depth, its Items not asked.
func wordOwn(v api.Value, depth int) api.Errno {
	fields, isKind := has[v.Kind]
	foreign := !fields.Int && v.Int != 0 || !fields.Float && math.Float64bits(v.Float) != 0 || !fields.Text && v.Text != "" || !fields.Items && len(v.Items) != 0
	errs := []struct {
		applies bool
		e       api.Errno
	}{
		{depth > 4, api.ErrDeep},
		{!isKind, api.ErrKind},
		{foreign, api.ErrKind},
		{v.Kind == api.Bool && v.Int != 0 && v.Int != 1, api.ErrKind},
		{v.Kind == api.Opt && len(v.Items) >= 2, api.ErrKind},
		{(v.Kind == api.Text || v.Kind == api.Bytes) && len(v.Text) > 1024, api.ErrLong},
		{v.Kind == api.List && len(v.Items) > 256, api.ErrMany},
		{v.Kind == api.Text && !wordUtf(v.Text), api.ErrUtf},
	}
	for _, one := range errs {
		if one.applies {
			return one.e
		}
	}
	return api.OK
}

// wordCheck is Check by the words: the values in the order in which they are asked, until one of them has an error of its own.
func wordCheck(v api.Value) api.Errno {
	type at struct {
		v     api.Value
		depth int
	}
	left := []at{{v, 1}}
	for len(left) > 0 {
		now := left[0]
		if e := wordOwn(now.v, now.depth); e != api.OK {
			return e
		}
		var ahead []at
		for _, item := range now.v.Items {
			ahead = append(ahead, at{item, now.depth + 1})
		}
		left = append(ahead, left[1:]...)
	}
	return api.OK
}

// encode is the character c in n bytes, whether these are the fewest or not, and whether it fits into so many at all.
func encode(c uint32, n int) (string, bool) {
	if n == 1 {
		return string([]byte{byte(c)}), c < 0x80
	}
	b := make([]byte, n)
	for i := n - 1; i > 0; i-- {
		b[i] = 0x80 | byte(c&0x3f)
		c >>= 6
	}
	lead := ^byte(0) << (8 - n)
	room := uint32(1) << (7 - n)
	b[0] = lead | byte(c)
	return string(b), c < room
}

// isCharacter tells whether there is such a character.
func isCharacter(c uint32) bool { return c <= 0x10ffff && (c < 0xd800 || c > 0xdfff) }

// fewest is in how many bytes a character must stand.
func fewest(c uint32) int {
	n := 1
	for _, end := range []uint32{0x80, 0x800, 0x10000} {
		if c >= end {
			n++
		}
	}
	return n
}

// wordUtf is Utf by the words: characters one behind the other, each of them such that it would be written just so.
func wordUtf(s string) bool {
	for s != "" {
		n := 0
		for first := s[0]; first&0x80 != 0; first <<= 1 {
			n++
		}
		if n == 0 {
			s = s[1:]
			continue
		}
		if n == 1 || n > 4 || len(s) < n {
			return false
		}
		c := uint32(s[0]) & (1<<(7-n) - 1)
		for _, b := range []byte(s[1:n]) {
			if b&0xc0 != 0x80 {
				return false
			}
			c = c<<6 | uint32(b&0x3f)
		}
		if !isCharacter(c) || fewest(c) != n {
			return false
		}
		s = s[n:]
	}
	return true
}

// source is bytes that are taken one by one; behind their end come zeros.
type source struct{ left []byte }

func (r *source) next() int {
	if len(r.left) == 0 {
		return 0
	}
	b := r.left[0]
	r.left = r.left[1:]
	return int(b)
}

var someTexts = []string{"", "a", "b", "ab", "\x00", "\u00e9", "\ufffd", "\U0010ffff", "\xff", "\xc3", "\xed\xa0\x80", strings.Repeat("a", 1024), strings.Repeat("\u00e9", 512), strings.Repeat("a", 1025), strings.Repeat("\xff", 1025)}

var someInts = []int64{0, 1, 2, -1, math.MaxInt64, math.MinInt64}

func (r *source) float() float64 {
	k := r.next() % (len(nanBits) + len(otherFloats))
	if k < len(nanBits) {
		return math.Float64frombits(nanBits[k])
	}
	return otherFloats[k-len(nanBits)]
}

// value is a value at a depth: most often one that may be.
func (r *source) value(depth int) api.Value {
	v := api.Value{Kind: []int{api.Bool, api.Int, api.Float, api.Text, api.Bytes, api.Opt, api.List, api.List, api.List}[r.next()%9]}
	wild := r.next()
	if wild >= 250 {
		v.Kind = []int{-1, 0, 8, 9, math.MaxInt, math.MinInt}[wild-250]
	}
	all := wild == 249
	fields := has[v.Kind]
	if fields.Int || all {
		v.Int = someInts[r.next()%len(someInts)]
	}
	if v.Kind == api.Bool && wild < 200 {
		v.Int &= 1
	}
	if fields.Float || all {
		v.Float = r.float()
	}
	if fields.Text || all {
		v.Text = someTexts[r.next()%len(someTexts)]
	}
	if depth < 6 && (fields.Items || all) {
		for range r.items(v.Kind, wild) {
			v.Items = append(v.Items, r.value(depth+1))
		}
	}
	if wild >= 230 && wild < 249 && v.Kind == api.List {
		v.Items = append(v.Items, times(256, float(r.float()))...)
	}
	return v
}

// items is how many Items a value is given.
func (r *source) items(kind, wild int) int {
	if kind == api.Opt && wild < 200 {
		return r.next() % 2
	}
	return r.next() % 5
}

// manyValues are mixed values, right ones and wrong ones.
func manyValues() []api.Value {
	var l []api.Value
	for k := range uint64(3000) {
		r := source{mixedBytes(k, 60)}
		l = append(l, r.value(1))
	}
	return l
}

func sameCheck(t *testing.T, v api.Value, want api.Errno) {
	t.Helper()
	if e := value.Check(v); e != want {
		t.Fatalf("Check(%.300s): %d, want %d", exact(v), e, want)
	}
	if e := wordCheck(v); e != want {
		t.Fatalf("by the words Check(%.300s) is %d, not %d", exact(v), e, want)
	}
}

// sameFix asks what Fix answers to the bit.
func sameFix(t *testing.T, v api.Value) {
	t.Helper()
	if got, want := exact(value.Fix(v)), fixed(v); got != want {
		t.Fatalf("Fix(%.300s): %.300s, want %.300s", exact(v), got, want)
	}
}

// sameSame asks Same both ways round.
func sameSame(t *testing.T, a, b api.Value, want bool) {
	t.Helper()
	if value.Same(a, b) != want || value.Same(b, a) != want {
		t.Fatalf("Same(%.300s, %.300s): %v and back %v, want %v", exact(a), exact(b), value.Same(a, b), value.Same(b, a), want)
	}
}

func sameUtf(t *testing.T, s string, want bool) {
	t.Helper()
	if got := value.Utf(s); got != want {
		t.Fatalf("Utf(%x): %v, want %v", brief(s), got, want)
	}
}

func brief(s string) string { return s[:min(len(s), 24)] }

// TestExamples: the chapter's examples.
func TestExamples(t *testing.T) {
	sameCheck(t, boolean(1), api.OK)
	sameCheck(t, boolean(2), api.ErrKind)
	sameCheck(t, api.Value{Kind: api.Int, Text: "a"}, api.ErrKind)
	sameCheck(t, api.Value{Kind: api.Int, Float: minusZero}, api.ErrKind)
	sameCheck(t, api.Value{Kind: 8}, api.ErrKind)
	sameCheck(t, api.Value{Kind: 0}, api.ErrKind)
	sameCheck(t, text("\xc3\xa9"), api.OK)
	sameCheck(t, text("\xff"), api.ErrUtf)
	sameCheck(t, rawBytes("\xff"), api.OK)
	sameCheck(t, text(strings.Repeat("\xff", 1025)), api.ErrLong)
	sameCheck(t, list(times(257, api.Value{})...), api.ErrMany)
	sameCheck(t, opt(), api.OK)
	sameCheck(t, opt(number(1), number(2)), api.ErrKind)
	sameCheck(t, list(opt(list(number(1)))), api.OK)
	sameCheck(t, list(opt(list(opt(number(1))))), api.ErrDeep)
	sameCheck(t, list(number(1), text("a")), api.OK)
	sameSame(t, nan(theNaN), nan(0xfff0000000000009), true)
	sameSame(t, float(0), float(minusZero), false)
}

// TestKinds: P6.1: which kinds there are; values of each with nothing in them.
func TestKinds(t *testing.T) {
	for kind := -300; kind <= 300; kind++ {
		want := api.ErrKind
		if kind >= 1 && kind <= 7 {
			want = api.OK
		}
		sameCheck(t, api.Value{Kind: kind}, want)
		sameCheck(t, list(api.Value{Kind: kind}), want)
	}
	for _, kind := range []int{math.MaxInt, math.MinInt, 1<<32 + 1, 1<<8 + 1, -1, 0, 8} {
		sameCheck(t, api.Value{Kind: kind}, api.ErrKind)
		sameCheck(t, opt(list(opt(api.Value{Kind: kind}))), api.ErrKind)
	}
}

// errIf is ErrKind where a field is not the kind's.
func errIf(own bool) api.Errno {
	if own {
		return api.OK
	}
	return api.ErrKind
}

// TestFields: P6.1: each kind with each field, its own and those that are not, beside its own with something in it and without.
func TestFields(t *testing.T) {
	for _, v := range []api.Value{
		boolean(0), boolean(1), number(0), number(-7), float(0), float(minusZero), nan(theNaN), float(2.5), text(""), text("t"), rawBytes(""), rawBytes("\xff"), opt(), opt(number(1)), list(), list(number(1), number(2)),
	} {
		fields := has[v.Kind]
		for _, n := range []int64{1, -1, 2, 256, 1 << 32, math.MinInt64, math.MaxInt64} {
			w := v
			w.Int = n
			sameCheck(t, w, errIf(fields.Int && (v.Kind == api.Int || n == 1)))
		}
		for _, x := range otherFloats[1:] {
			w := v
			w.Float = x
			sameCheck(t, w, errIf(fields.Float))
		}
		for _, bits := range nanBits {
			w := v
			w.Float = math.Float64frombits(bits)
			sameCheck(t, w, errIf(fields.Float))
		}
		for _, s := range []string{"a", "\x00", " ", "\u00e9"} {
			w := v
			w.Text = s
			sameCheck(t, w, errIf(fields.Text))
		}
		for _, items := range [][]api.Value{{number(3)}, {opt()}} {
			w := v
			w.Items = items
			sameCheck(t, w, errIf(fields.Items))
		}
		w := v
		w.Float, w.Items = 0, []api.Value{} // an empty list is none
		sameCheck(t, w, api.OK)
	}
}

// TestOwnFields: P6.1: what of its own field a kind takes.
func TestOwnFields(t *testing.T) {
	for _, n := range []int64{2, -1, -2, 3, 256, 257, 1 << 32, 1<<32 + 1, math.MaxInt64, math.MinInt64} {
		sameCheck(t, boolean(n), api.ErrKind)
		sameCheck(t, number(n), api.OK)
	}
	for _, n := range []int64{0, 1} {
		sameCheck(t, boolean(n), api.OK)
		sameCheck(t, number(n), api.OK)
	}
	for _, x := range otherFloats {
		sameCheck(t, float(x), api.OK)
		sameCheck(t, list(opt(float(x))), api.OK)
	}
	for _, bits := range nanBits {
		sameCheck(t, nan(bits), api.OK)
		sameCheck(t, list(opt(nan(bits))), api.OK)
	}
	for n := range 6 {
		want := api.ErrKind
		if n < 2 {
			want = api.OK
		}
		sameCheck(t, opt(times(n, number(1))...), want)
		sameCheck(t, list(times(n, opt(times(n, number(1))...))...), want)
	}
	sameCheck(t, opt(times(256, number(1))...), api.ErrKind)
}

// TestTexts: P6.1: texts and bytes at the limit, counted in bytes; what is no UTF-8.
func TestTexts(t *testing.T) {
	for _, c := range []string{"a", "\x00", "\u00e9", "\u20ac", "\ufffd", "\U0001f600"} {
		for n := 1024/len(c) - 2; n <= 1024/len(c)+2; n++ {
			s := strings.Repeat(c, n)
			want := api.OK
			if len(s) > 1024 {
				want = api.ErrLong
			}
			sameCheck(t, text(s), want)
			sameCheck(t, rawBytes(s), want)
			sameCheck(t, list(number(1), text(s)), want)
		}
	}
	for _, n := range []int{1, 2, 1023, 1024, 1025, 1026, 5000} {
		s := strings.Repeat("\x80", n)
		inText, inBytes := api.ErrUtf, api.OK
		if n > 1024 {
			inText, inBytes = api.ErrLong, api.ErrLong
		}
		sameCheck(t, text(s), inText)
		sameCheck(t, rawBytes(s), inBytes)
	}
	sameCheck(t, text(strings.Repeat("a", 1023)+"\u00e9"), api.ErrLong)
	sameCheck(t, text(strings.Repeat("a", 1023)+"\xc3"), api.ErrUtf)
	sameCheck(t, text(strings.Repeat("a", 1023)+"\xff"), api.ErrUtf)
}

// TestLists: P6.1: lists at the limit; whichever item is wrong.
func TestLists(t *testing.T) {
	for _, item := range []api.Value{number(1), opt(), list(), text("a"), list(number(1))} {
		for _, n := range []int{0, 1, 2, 255, 256} {
			sameCheck(t, list(times(n, item)...), api.OK)
			sameCheck(t, opt(list(times(n, item)...)), api.OK)
		}
		for _, n := range []int{257, 258, 1000} {
			sameCheck(t, list(times(n, item)...), api.ErrMany)
			sameCheck(t, opt(list(times(n, item)...)), api.ErrMany)
		}
	}
	for n := 1; n <= 256; n++ {
		for at := range n {
			items := times(n, number(1))
			items[at] = text("\xff")
			if e := value.Check(list(items...)); e != api.ErrUtf {
				t.Fatalf("%d Items, no UTF-8 in that at %d: %d", n, at, e)
			}
		}
	}
	sameCheck(t, list(list(times(256, number(1))...), list(times(256, number(1))...)), api.OK)
}

// TestDepth: P6.1: values at the depth 4 and at 5, under lists and under Opts.
func TestDepth(t *testing.T) {
	for _, v := range []api.Value{boolean(1), number(9), float(1), text("a"), rawBytes("a"), opt(), list()} {
		for n := range 8 {
			want := api.OK
			if n >= 4 {
				want = api.ErrDeep
			}
			sameCheck(t, under(n, v), want)
			alone := v
			for range n {
				alone = opt(alone)
			}
			sameCheck(t, alone, want)
		}
	}
	sameCheck(t, under(3, list(number(1))), api.ErrDeep)
	sameCheck(t, under(3, opt(number(1))), api.ErrDeep)
	sameCheck(t, under(2, list(number(1))), api.OK)
	sameCheck(t, list(number(1), list(number(2), list(number(3), list())), under(3, number(4))), api.ErrDeep)
	if e := value.Check(under(1<<16, number(1))); e != api.ErrDeep {
		t.Fatalf("very deep: %d", e)
	}
}

// TestFirstError: P6.1: which error comes first where several apply.
func TestFirstError(t *testing.T) {
	long := strings.Repeat("\xff", 1025)
	many := times(257, api.Value{})
	for _, v := range []api.Value{{}, text("\xff"), text(long), list(many...), boolean(2), opt(many...)} {
		sameCheck(t, under(4, v), api.ErrDeep)
	}
	for _, v := range []api.Value{
		{Kind: 0, Text: long, Items: many}, {Kind: api.Int, Text: long}, {Kind: api.List, Text: long}, {Kind: api.List, Text: "\xff", Items: many},
		{Kind: api.Text, Text: long, Items: many}, {Kind: api.Text, Text: "\xff", Int: 1}, {Kind: api.Text, Text: long, Float: minusZero}, {Kind: api.Bytes, Text: long, Int: 1},
		{Kind: api.List, Items: many, Float: minusZero}, {Kind: api.List, Items: many, Int: 1}, {Kind: api.Bool, Int: 2, Text: long}, opt(many...), opt(text("\xff"), text("\xff")),
		{Kind: api.Text, Text: "\xff", Items: []api.Value{under(9, number(1))}},
	} {
		sameCheck(t, v, api.ErrKind)
		sameCheck(t, under(3, v), api.ErrKind)
	}
	sameCheck(t, text(long), api.ErrLong)
	sameCheck(t, list(times(257, text("\xff"))...), api.ErrMany)
	sameCheck(t, list(times(257, under(4, number(1)))...), api.ErrMany)
	sameCheck(t, under(3, list(times(257, number(1))...)), api.ErrMany)
	sameCheck(t, under(3, list(times(256, number(1))...)), api.ErrDeep)
}

// TestFirstItem: P6.1: of the Items' errors the first one's, however deep it stands.
func TestFirstItem(t *testing.T) {
	wrong := []api.Value{{}, text("\xff"), text(strings.Repeat("a", 1025)), list(times(257, number(1))...), under(4, number(1)), under(2, text("\xff")), list(number(1), boolean(2)), opt(rawBytes(strings.Repeat("a", 1025)))}
	for _, a := range wrong {
		for _, b := range wrong {
			first := wordCheck(list(a))
			sameCheck(t, list(a, b), first)
			sameCheck(t, list(number(1), a, b), first)
			sameCheck(t, list(text("a"), opt(), a, number(1), b), first)
		}
	}
	// A list is gone through to its end ahead of what stands behind it.
	sameCheck(t, list(list(number(1), list(text("\xff"))), api.Value{}), api.ErrUtf)
	sameCheck(t, list(list(number(1), list(number(1))), api.Value{}), api.ErrKind)
}

// TestCheck: P6.1: mixed values, held against the words.
func TestCheck(t *testing.T) {
	seen := map[api.Errno]int{}
	for _, v := range manyValues() {
		want := wordCheck(v)
		sameCheck(t, v, want)
		seen[want]++
	}
	for _, e := range []api.Errno{api.OK, api.ErrKind, api.ErrLong, api.ErrMany, api.ErrUtf, api.ErrDeep} {
		if seen[e] < 5 {
			t.Errorf("only %d values with the error %d", seen[e], e)
		}
	}
}

// TestFix: P6.2, R6: floats of every kind, in a value of every kind, itself and deep in its Items; all else stays.
func TestFix(t *testing.T) {
	for _, kind := range []int{-1, 0, 1, 2, 3, 4, 5, 6, 7, 8} {
		var all []api.Value
		for _, bits := range nanBits {
			all = append(all, api.Value{Kind: kind, Float: math.Float64frombits(bits), Int: 5, Text: "\xffa"})
		}
		for _, x := range otherFloats {
			all = append(all, api.Value{Kind: kind, Float: x, Int: -5, Text: strings.Repeat("a", 1025)})
		}
		for _, v := range all {
			sameFix(t, v)
			sameFix(t, under(9, v))
			sameFix(t, opt(v, v, v))
			v.Items = all
			sameFix(t, v)
			sameFix(t, list(number(1), v, opt(v)))
		}
	}
	for _, v := range manyValues() {
		sameFix(t, v)
	}
}

// TestFixBits: P6.2: of each NaN the one; of both noughts and infinities themselves.
func TestFixBits(t *testing.T) {
	for _, bits := range nanBits {
		f := value.Fix(list(nan(bits), opt(nan(bits)), under(3, nan(bits))))
		for _, x := range []float64{f.Items[0].Float, f.Items[1].Items[0].Float, f.Items[2].Items[0].Items[0].Items[0].Float} {
			if math.Float64bits(x) != theNaN {
				t.Fatalf("%x was made %x", bits, math.Float64bits(x))
			}
		}
	}
	for _, x := range otherFloats {
		f := value.Fix(opt(float(x)))
		if got := f.Items[0].Float; math.Float64bits(got) != math.Float64bits(x) {
			t.Fatalf("%v was made %v", x, got)
		}
	}
}

// ofEach are values of every kind, unlike each other, some of which may not be.
func ofEach() []api.Value {
	l := []api.Value{
		{}, {Kind: 8}, {Kind: -1}, boolean(0), boolean(1), boolean(2), text(""), text("a"), text("a\x00"), text("\u00e9"), text("e\u0301"), text("\xff"), rawBytes(""), rawBytes("a"),
		opt(), opt(opt()), opt(number(1)), opt(number(2)), opt(number(1), number(1)), list(), list(list()), list(opt()), list(number(1)), list(number(2)), list(number(1), number(2)), list(number(2), number(1)), list(number(1), number(2), number(1)),
		list(nan(theNaN)), list(float(0)), list(float(minusZero)), opt(float(minusZero)), under(3, float(0)), under(3, float(minusZero)), under(3, nan(theNaN)), list(list(number(1)), number(2)), list(list(number(1), number(2))),
		{Kind: api.Int, Text: "a"}, {Kind: api.Int, Float: minusZero}, {Kind: api.Int, Float: 1}, {Kind: api.Int, Float: math.Float64frombits(theNaN)}, {Kind: api.Text, Int: 1}, {Kind: api.Text, Items: times(1, number(1))}, {Kind: api.Int, Items: times(1, number(1))},
	}
	for _, n := range someInts {
		l = append(l, number(n))
	}
	for _, x := range otherFloats {
		l = append(l, float(x))
	}
	return append(l, nan(theNaN))
}

// TestSame: P6.3: of unlike values each is the same as itself alone, and so are lists and rows of them.
func TestSame(t *testing.T) {
	l := ofEach()
	for i, a := range l {
		for k, b := range l {
			if (fixed(a) == fixed(b)) != (i == k) {
				t.Fatalf("the values %s and %s of the test", exact(a), exact(b))
			}
			sameSame(t, a, b, i == k)
			sameSame(t, list(number(1), a), list(number(1), b), i == k)
			sameSame(t, list(a, number(1)), list(b, number(1)), i == k)
			sameSame(t, under(9, a), under(9, b), i == k)
			sameRow(t, []api.Value{a}, []api.Value{b}, i == k)
			sameRow(t, []api.Value{number(1), a, text("b")}, []api.Value{number(1), b, text("b")}, i == k)
		}
	}
	sameSame(t, api.Value{Kind: api.List}, api.Value{Kind: api.List, Items: []api.Value{}}, true)
}

// TestSameNaNs: P6.3: all NaNs are the same, in whatever place; no other float is.
func TestSameNaNs(t *testing.T) {
	for _, a := range nanBits {
		for _, b := range nanBits {
			sameSame(t, nan(a), nan(b), true)
			sameSame(t, list(number(1), opt(nan(a))), list(number(1), opt(nan(b))), true)
			sameRow(t, []api.Value{number(1), nan(a)}, []api.Value{number(1), nan(b)}, true)
			sameSame(t, api.Value{Kind: 9, Float: math.Float64frombits(a)}, api.Value{Kind: 9, Float: math.Float64frombits(b)}, true)
		}
		for _, x := range otherFloats {
			sameSame(t, nan(a), float(x), false)
			sameSame(t, opt(nan(a)), opt(float(x)), false)
		}
	}
}

// TestSameOfAll: P6.3, P6.5: mixed values, held against the words: the same just if what they hold is, fixed.
func TestSameOfAll(t *testing.T) {
	l := manyValues()
	told := make([]string, len(l))
	for i, v := range l {
		told[i] = fixed(v)
	}
	for i, a := range l {
		sameSame(t, a, a, true)
		for k := i % 17; k < len(l); k += 17 {
			if want := told[i] == told[k]; value.Same(a, l[k]) != want {
				t.Fatalf("Same(%.300s, %.300s), want %v", told[i], told[k], want)
			}
		}
	}
}

// sameRow asks SameRow both ways round.
func sameRow(t *testing.T, a, b []api.Value, want bool) {
	t.Helper()
	x, y := api.Row{Values: a}, api.Row{Values: b}
	if value.SameRow(x, y) != want || value.SameRow(y, x) != want {
		t.Fatalf("SameRow(%.300s, %.300s): %v and back %v, want %v", exact(list(a...)), exact(list(b...)), value.SameRow(x, y), value.SameRow(y, x), want)
	}
}

// TestSameRow: P6.3: rows of unlike lengths, of none, and with one value that is another, wherever it stands.
func TestSameRow(t *testing.T) {
	sameRow(t, nil, nil, true)
	sameRow(t, nil, []api.Value{}, true)
	for n := range 20 {
		for m := range 20 {
			sameRow(t, times(n, number(4)), times(m, number(4)), n == m)
			sameRow(t, times(n, api.Value{}), times(m, api.Value{}), n == m)
		}
		for at := range n {
			other := times(n, number(4))
			other[at] = number(5)
			sameRow(t, times(n, number(4)), other, false)
		}
	}
	sameRow(t, []api.Value{number(1), number(2)}, []api.Value{number(2), number(1)}, false)
	sameRow(t, []api.Value{list(number(1))}, []api.Value{number(1)}, false)
	for _, v := range manyValues() {
		f := value.Fix(v)
		sameRow(t, v.Items, f.Items, true)
		sameRow(t, []api.Value{v, f}, []api.Value{f, v}, true)
		sameRow(t, []api.Value{v, v}, []api.Value{f}, false)
	}
}

// TestFixedIsTheSame: P6.5: Fix(v) is the same as v, and Check of both is; what is the same as one is the same as the other.
func TestFixedIsTheSame(t *testing.T) {
	l := append(manyValues(), ofEach()...)
	others := ofEach()
	for _, v := range l {
		f := value.Fix(v)
		sameSame(t, v, f, true)
		sameSame(t, v, v, true)
		if exact(value.Fix(f)) != exact(f) {
			t.Fatalf("Fix of Fix(%.300s): %.300s", exact(v), exact(value.Fix(f)))
		}
		if value.Check(v) != value.Check(f) {
			t.Fatalf("Check(%.300s): %d, fixed %d", exact(v), value.Check(v), value.Check(f))
		}
		for _, w := range others {
			if value.Same(v, w) != value.Same(f, w) {
				t.Fatalf("Same(%.300s, %.300s): %v, fixed %v", exact(v), exact(w), value.Same(v, w), value.Same(f, w))
			}
		}
	}
}

// TestVeryDeep: R1, R7: values of 2^16 parts within one another, such of many more parts side by side.
func TestVeryDeep(t *testing.T) {
	v := under(1<<16-1, nan(0xfff8000000000001))
	f := value.Fix(v)
	sameDeep(t, v, f, true)
	sameDeep(t, v, under(1<<16-1, number(1)), false)
	sameDeep(t, v, under(1<<16-2, nan(theNaN)), false)
	inner := f
	for len(inner.Items) > 0 {
		inner = inner.Items[0]
	}
	if math.Float64bits(inner.Float) != theNaN {
		t.Fatalf("deep inside: %x", math.Float64bits(inner.Float))
	}
	wide := list(times(1<<18, nan(0xfff8000000000001))...)
	sameDeep(t, wide, value.Fix(wide), true)
	if value.Check(wide) != api.ErrMany {
		t.Fatal("Check of a very wide list")
	}
}

func sameDeep(t *testing.T, a, b api.Value, want bool) {
	t.Helper()
	if value.Same(a, b) != want || value.Same(b, a) != want {
		t.Fatalf("Same of deep values, want %v", want)
	}
	if value.SameRow(api.Row{Values: a.Items}, api.Row{Values: b.Items}) != want {
		t.Fatalf("SameRow of deep values, want %v", want)
	}
}

// TestUtfEdges: P6.4: the first and the last character of each length, those about the edges, in as many bytes as they need and in more.
func TestUtfEdges(t *testing.T) {
	for s, want := range map[string]bool{
		"": true, "\x00": true, "\x7f": true, "\xc2\x80": true, "\xdf\xbf": true, "\xe0\xa0\x80": true, "\xef\xbf\xbf": true, "\xf0\x90\x80\x80": true, "\xf4\x8f\xbf\xbf": true,
		"\xed\x9f\xbf": true, "\xed\xa0\x80": false, "\xed\xaf\xbf": false, "\xed\xb0\x80": false, "\xed\xbf\xbf": false, "\xee\x80\x80": true, "\xed\xa0\x80\xed\xb0\x80": false,
		"\xf4\x90\x80\x80": false, "\xf7\xbf\xbf\xbf": false, "\xf5\x80\x80\x80": false, "\xf8\x88\x80\x80\x80": false, "\xfc\x84\x80\x80\x80\x80": false,
		"\xc0\x80": false, "\xc1\xbf": false, "\xe0\x80\x80": false, "\xe0\x9f\xbf": false, "\xf0\x80\x80\x80": false, "\xf0\x8f\xbf\xbf": false, "\xf0\x82\x82\xac": false, "\xe0\x81\x81": false,
		"\x80": false, "\xbf": false, "a\x80": false, "\xc2": false, "\xe2\x82": false, "\xe2": false, "\xf0\x9f\x98": false, "\xf0\x9f": false, "\xf0": false, "\xfe": false, "\xff": false,
		"\xc2a": false, "\xe2\x82a": false, "\xc2\xc2\x80": false, "\xc2\x80\x80": false, "\xe2\x82\xac\xac": false,
		"\xef\xbf\xbd": true, "\xef\xbf\xbd\xef\xbf\xbd": true, "\xef\xbf": false, "\xef\xbf\xef\xbf\xbd": false, "\xef\xbf\xbd\xff": false, "\xff\xef\xbf\xbd": false, "\xef\xbf\xbd\xbd": false, "\xef\xbf\xbc": true, "\xef\xbb\xbf": true,
		"plain": true, "gr\u00fc\u00dfe \u20ac \U0001f600": true, "gr\xfc\xdfe": false,
	} {
		sameUtf(t, s, want)
		sameUtf(t, "ab\u00e9"+s+"\U0001f600c", want)
		sameUtf(t, strings.Repeat("a", 5000)+s, want)
		sameCheck(t, text(s), map[bool]api.Errno{true: api.OK, false: api.ErrUtf}[want])
		sameCheck(t, rawBytes(s), api.OK)
	}
}

// TestUtfCharacters: P6.4: every number below 2^21, in every number of bytes that it fits into.
func TestUtfCharacters(t *testing.T) {
	for c := range uint32(1 << 21) {
		for n := 1; n <= 4; n++ {
			s, fits := encode(c, n)
			if !fits {
				continue
			}
			if want := isCharacter(c) && n == fewest(c); value.Utf(s) != want {
				t.Fatalf("Utf of %x in %d bytes: %v", c, n, !want)
			}
		}
	}
	for _, c := range []uint32{0, 0x7f, 0x80, 0x10ffff, 0x1fffff, 0x200000, 0x3ffffff, 0x4000000, 0x7fffffff} {
		for n := 5; n <= 6; n++ {
			if s, fits := encode(c, n); fits {
				sameUtf(t, s, false)
			}
		}
	}
}

// TestUtfCutShort: P6.4: characters that are cut short, with bytes too many, with another byte in the place of each.
func TestUtfCutShort(t *testing.T) {
	for _, c := range []rune{0x80, 0xe9, 0x7ff, 0x800, 0x20ac, 0xd7ff, 0xe000, 0xfffd, 0xffff, 0x10000, 0x1f600, 0xfffff, 0x100000, 0x10ffff} {
		s := string(c)
		for n := 1; n < len(s); n++ {
			for _, behind := range []string{"", "a", "\x00", s, "\xff"} {
				sameUtf(t, s[:n]+behind, false)
				sameUtf(t, s+s[:n]+behind, false)
			}
			sameUtf(t, s[n:], false)
		}
		for b := range 256 {
			tail := string([]byte{byte(b)})
			sameUtf(t, s+tail, b < 0x80)
			sameUtf(t, tail+s, b < 0x80)
			for at := range len(s) {
				other := s[:at] + tail + s[at+1:]
				sameUtf(t, other, wordUtf(other))
			}
		}
	}
}

// TestUtfShort: P6.4: all texts of up to two bytes, and those of three and four of the bytes about each edge.
func TestUtfShort(t *testing.T) {
	var all []byte
	for b := range 256 {
		all = append(all, byte(b))
	}
	edges := []byte("\x00\x41\x7f\x80\x8f\x90\x9f\xa0\xbf\xc0\xc1\xc2\xdf\xe0\xe1\xec\xed\xee\xef\xf0\xf1\xf3\xf4\xf5\xf7\xf8\xff")
	utfOfAll(t, all, 2)
	utfOfAll(t, edges, 4)
}

// utfOfAll asks all texts of up to so many of these bytes.
func utfOfAll(t *testing.T, of []byte, most int) {
	t.Helper()
	s := make([]byte, 0, most)
	var more func()
	more = func() {
		if value.Utf(string(s)) != wordUtf(string(s)) {
			t.Fatalf("Utf(%x), want %v", s, wordUtf(string(s)))
		}
		if len(s) == most {
			return
		}
		for _, b := range of {
			s = append(s, b)
			more()
			s = s[:len(s)-1]
		}
	}
	more()
}

// TestUtfTogether: P6.6: right texts put together are right; what is left of a right text behind a right beginning is.
func TestUtfTogether(t *testing.T) {
	var right []string
	for _, s := range someTexts {
		if value.Utf(s) {
			right = append(right, s)
		}
	}
	for _, c := range []rune{0, 0x7f, 0x80, 0x7ff, 0x800, 0xd7ff, 0xe000, 0xfffd, 0xffff, 0x10000, 0x10ffff} {
		right = append(right, string(c), string(c)+"a", "a"+string(c), string(c)+string(c))
	}
	for _, a := range right {
		for _, b := range right {
			s := a + b
			sameUtf(t, s, true)
			for n := range len(s) + 1 {
				onEdge := n == len(s) || s[n]&0xc0 != 0x80
				if value.Utf(s[:n]) != onEdge || value.Utf(s[n:]) != onEdge {
					t.Fatalf("%x, cut at %d: %v and %v", brief(s), n, value.Utf(s[:n]), value.Utf(s[n:]))
				}
			}
		}
	}
}

// roomy is v with room behind each of its lists, in which a value stands that is not v's.
func roomy(v api.Value) api.Value {
	items := make([]api.Value, 0, len(v.Items)+3)
	for _, item := range v.Items {
		items = append(items, roomy(item))
	}
	copy(items[len(items):cap(items)], times(3, nan(0xfff8000000000bad)))
	v.Items = items
	return v
}

// withRoom is what a value holds, to the bit, and what stands in the room behind its lists.
func withRoom(v api.Value) string {
	if cap(v.Items) == 0 {
		return exact(v)
	}
	var s strings.Builder
	for _, item := range v.Items[:cap(v.Items)] {
		s.WriteString(withRoom(item))
	}
	s.WriteString(strconv.Itoa(len(v.Items)))
	v.Items = nil
	return s.String() + exact(v)
}

// TestArgumentStays: R4, R5: what is handed in stays, with the room behind each list; nothing of that room counts; a second call answers the same.
func TestArgumentStays(t *testing.T) {
	for _, v := range append(manyValues()[:600], ofEach()...) {
		given := roomy(v)
		before := withRoom(given)
		for range 2 {
			sameCheck(t, given, wordCheck(v))
			sameFix(t, given)
			sameSame(t, given, v, true)
			sameRow(t, given.Items, v.Items, true)
			value.Utf(given.Text)
		}
		if after := withRoom(given); after != before {
			t.Fatalf("what was handed in was changed: %.300s, now %.300s", before, after)
		}
	}
}

// spoil writes into a value's lists, those deep inside first, and into the room behind them.
func spoil(v api.Value) {
	for i := range v.Items {
		spoil(v.Items[i])
	}
	whole := v.Items[:cap(v.Items)]
	for i := range whole {
		whole[i] = api.Value{Kind: -99, Int: 99, Float: 99, Text: "spoilt"}
	}
}

// TestAnswersAreTheCallers: R4: who writes into what was handed in, or into what was told, changes no other.
func TestAnswersAreTheCallers(t *testing.T) {
	for _, v := range append(manyValues()[:600], ofEach()...) {
		given := roomy(v)
		first, second := value.Fix(given), value.Fix(given)
		before := withRoom(given)
		spoil(first)
		if withRoom(given) != before {
			t.Fatalf("Fix(%.300s) shares memory with its argument", exact(v))
		}
		if exact(second) != fixed(v) {
			t.Fatalf("Fix(%.300s) shares memory with another answer", exact(v))
		}
		spoil(given)
		if exact(second) != fixed(v) {
			t.Fatalf("Fix(%.300s) shares memory with its argument", exact(v))
		}
	}
}

// TestListsOfOneAnswer: R4: lists that were one when they were handed in are not when they are told.
func TestListsOfOneAnswer(t *testing.T) {
	shared := list(nan(theNaN), number(2), text("c"))
	within := times(5, number(7))
	for _, v := range []api.Value{
		list(shared, shared), list(opt(shared), list(shared)),
		list(list(within[:2]...), list(within[2:]...)), list(list(within[:0]...), list(within[:0]...)), list(list(within[:1]...), list(within...)),
	} {
		f := value.Fix(v)
		second := exact(f.Items[1])
		spoil(f.Items[0])
		if exact(f.Items[1]) != second {
			t.Fatalf("two lists of Fix(%s) share memory", exact(v))
		}
		spoil(f)
	}
	if exact(shared) != exact(list(nan(theNaN), number(2), text("c"))) || exact(list(within...)) != exact(list(times(5, number(7))...)) {
		t.Fatal("Fix shares memory with its argument")
	}
}

// FuzzUtf: any text is right just if it is by the words, and by the library.
func FuzzUtf(f *testing.F) {
	for _, s := range someTexts {
		f.Add(s, "a")
	}
	f.Fuzz(func(t *testing.T, a, b string) {
		sameUtf(t, a, wordUtf(a))
		sameUtf(t, b, utf8.ValidString(b))
		if value.Utf(a) {
			sameUtf(t, a+b, value.Utf(b))
		}
	})
}

// FuzzValue: values that bytes tell, held against the words.
func FuzzValue(f *testing.F) {
	for k := range uint64(20) {
		f.Add(mixedBytes(k, 40), mixedBytes(k+1, 40))
	}
	f.Fuzz(func(t *testing.T, one, two []byte) {
		first, second := source{one}, source{two}
		a, b := first.value(1), second.value(1)
		sameCheck(t, a, wordCheck(a))
		sameFix(t, a)
		sameSame(t, a, value.Fix(a), true)
		sameSame(t, a, b, fixed(a) == fixed(b))
		sameRow(t, a.Items, b.Items, fixed(list(a.Items...)) == fixed(list(b.Items...)))
	})
}
