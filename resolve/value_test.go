package resolve_test

import (
	"math"
	"slices"
	"strings"
	"testing"

	"gabion/api"
	"gabion/resolve"
	"gabion/schema"
	"gabion/value"
)

// sameValue asks what Value answers, by the words too, and whether that is of the type that it was read as.
func sameValue(t *testing.T, from, to api.Type, v api.Value, want api.Errno) api.Value {
	t.Helper()
	words, wordE := wordValue(from, to, v)
	if wordE != want {
		t.Fatalf("by the words Value(%s, %s, %.300s) is %d, not %d", shown(from), shown(to), exact(v), wordE, want)
	}
	told, e := resolve.Value(from, to, v)
	if e != want || exact(told) != exact(words) {
		t.Fatalf("Value(%s, %s, %.300s): %.300s, %d, want %.300s, %d", shown(from), shown(to), exact(v), exact(told), e, exact(words), want)
	}
	if e != api.OK && exact(told) != exact(api.Value{}) {
		t.Fatalf("Value(%s, %s, %.300s): %.300s beside the error %d", shown(from), shown(to), exact(v), exact(told), e)
	}
	if e == api.OK && !schema.Is(told, to) {
		t.Fatalf("Value(%s, %s, %.300s): %.300s is not of the type", shown(from), shown(to), exact(v), exact(told))
	}
	return told
}

// asValue is sameValue with the error that the words tell.
func asValue(t *testing.T, from, to api.Type, v api.Value) api.Errno {
	t.Helper()
	_, e := wordValue(from, to, v)
	sameValue(t, from, to, v, e)
	return e
}

// becomes asks for just that value.
func becomes(t *testing.T, from, to api.Type, v, want api.Value) {
	t.Helper()
	if told := sameValue(t, from, to, v, api.OK); exact(told) != exact(want) {
		t.Fatalf("Value(%s, %s, %.300s): %.300s, want %.300s", shown(from), shown(to), exact(v), exact(told), exact(want))
	}
}

// TestValueExamples: the chapter's examples of Value, as they stand there.
func TestValueExamples(t *testing.T) {
	becomes(t, ofInt, ofFloat, number(1<<53), float(1<<53))
	sameValue(t, ofInt, ofFloat, number(1<<53+1), api.ErrLossy)
	sameValue(t, ofFloat, ofInt, float(minusZero), api.ErrLossy)
	becomes(t, ofFloat, ofInt, float(7), number(7))
	sameValue(t, optOf(ofInt), ofInt, opt(), api.ErrAbsent)
	becomes(t, ofInt, optOf(ofFloat), number(5), opt(float(5)))
	sameValue(t, optOf(optOf(ofInt)), optOf(ofInt), opt(opt()), api.ErrAbsent)
	sameValue(t, ofBytes, ofText, rawBytes("\xff"), api.ErrUtf)
	for _, s := range []string{"", "a", "\u00e9\x00", "any"} {
		becomes(t, ofText, ofBytes, text(s), rawBytes(s))
	}
	sameValue(t, ofInt, ofBool, number(0), api.ErrKind)
	sameValue(t, listOf(ofInt), listOf(ofText), list(), api.ErrKind)
}

// TestPlainKinds: P9.1: of the kinds that are of no other one, each read as each, in whatever they stand.
func TestPlainKinds(t *testing.T) {
	can := map[[2]int]bool{}
	for k := api.Bool; k <= api.Bytes; k++ {
		can[[2]int{k, k}] = true
	}
	can[[2]int{api.Int, api.Float}], can[[2]int{api.Float, api.Int}], can[[2]int{api.Bool, api.Int}] = true, true, true
	can[[2]int{api.Text, api.Bytes}], can[[2]int{api.Bytes, api.Text}] = true, true
	right := []api.Value{api.Bool: boolean(1), api.Int: number(7), api.Float: float(7), api.Text: text("\u00e9"), api.Bytes: rawBytes("\u00e9")}
	becoming := map[[2]int]api.Value{{api.Bool, api.Int}: number(1)}
	for _, from := range plains {
		for _, to := range plains {
			held := [2]int{from.Kind, to.Kind}
			v, want := right[from.Kind], right[to.Kind]
			if other, is := becoming[held]; is {
				want = other
			}
			e := api.ErrKind
			if can[held] {
				e = api.OK
				becomes(t, from, to, v, want)
				becomes(t, optOf(from), to, opt(v), want)
				becomes(t, from, optOf(to), v, opt(want))
				becomes(t, optOf(from), optOf(to), opt(v), opt(want))
				becomes(t, listOf(from), listOf(to), list(v, v), list(want, want))
				becomes(t, listOf(optOf(from)), optOf(listOf(to)), list(opt(v)), opt(list(want)))
				becomes(t, from, within(3, api.Opt, to), v, opt(opt(opt(want))))
				becomes(t, within(3, api.Opt, from), to, opt(opt(opt(v))), want)
				becomes(t, within(3, api.List, from), within(3, api.List, to), list(list(list(v), list()), list()), list(list(list(want), list()), list()))
			}
			for n := range 3 {
				sameValue(t, within(n, api.Opt, from), to, there(n, v), e)
				sameValue(t, from, within(n, api.Opt, to), v, e)
			}
			sameValue(t, listOf(from), listOf(to), list(), e)
			sameValue(t, optOf(from), optOf(to), opt(), e)
			sameValue(t, listOf(from), to, list(v), api.ErrKind)
			sameValue(t, listOf(from), to, list(), api.ErrKind)
			sameValue(t, from, listOf(to), v, api.ErrKind)
			sameValue(t, optOf(listOf(from)), optOf(to), opt(), api.ErrKind)
			sameValue(t, optOf(from), listOf(to), opt(v), api.ErrKind)
			sameValue(t, listOf(from), optOf(to), list(v), api.ErrKind)
			sameValue(t, listOf(listOf(from)), listOf(to), list(), api.ErrKind)
			sameValue(t, listOf(from), within(2, api.List, to), list(), api.ErrKind)
		}
	}
}

// TestEachAsEach: P9.1: each type that may be, read as each other one: values at the edges of each.
func TestEachAsEach(t *testing.T) {
	types := everyType()
	seen := map[api.Errno]int{}
	for _, from := range types {
		all := valuesOf(from)
		for _, to := range types {
			for _, v := range all {
				seen[asValue(t, from, to, v)]++
			}
		}
	}
	for e, least := range map[api.Errno]int{api.OK: 3000, api.ErrKind: 30000, api.ErrLossy: 400, api.ErrUtf: 200, api.ErrAbsent: 400} {
		if seen[e] < least {
			t.Errorf("only %d with the error %d", seen[e], e)
		}
	}
}

// TestOpts: P9.1: none and there, under none to three Opts on either side.
func TestOpts(t *testing.T) {
	two, three := within(2, api.Opt, ofInt), within(3, api.Opt, ofInt)
	asFloat, twoFloat, threeFloat := optOf(ofFloat), within(2, api.Opt, ofFloat), within(3, api.Opt, ofFloat)
	for _, to := range []api.Type{asFloat, twoFloat, threeFloat} {
		for _, from := range []api.Type{optOf(ofInt), two, three} {
			becomes(t, from, to, opt(), opt())
		}
	}
	becomes(t, optOf(ofInt), twoFloat, opt(number(5)), opt(opt(float(5))))
	becomes(t, optOf(ofInt), threeFloat, opt(number(5)), opt(opt(opt(float(5)))))
	becomes(t, two, threeFloat, opt(opt()), opt(opt()))
	becomes(t, two, twoFloat, opt(opt()), opt(opt()))
	becomes(t, three, threeFloat, opt(opt(opt())), opt(opt(opt())))
	becomes(t, three, twoFloat, opt(opt(opt(number(5)))), opt(opt(float(5))))
	becomes(t, three, twoFloat, opt(opt()), opt(opt()))
	sameValue(t, three, twoFloat, opt(opt(opt())), api.ErrAbsent)
	becomes(t, three, asFloat, opt(), opt())
	sameValue(t, three, asFloat, opt(opt()), api.ErrAbsent)
	sameValue(t, three, asFloat, opt(opt(opt())), api.ErrAbsent)
	for n := range 3 {
		sameValue(t, three, ofFloat, there(n, opt()), api.ErrAbsent)
		sameValue(t, three, ofInt, there(n, opt()), api.ErrAbsent)
	}
	for n := range 4 {
		for m := range 4 {
			from, to := within(n, api.Opt, ofInt), within(m, api.Opt, ofFloat)
			becomes(t, from, to, there(n, number(5)), there(m, float(5)))
			sameValue(t, from, to, there(n, number(1<<53+1)), api.ErrLossy)
		}
	}
	becomes(t, listOf(ofInt), listOf(optOf(ofInt)), list(number(1), number(2)), list(opt(number(1)), opt(number(2))))
	becomes(t, optOf(listOf(ofInt)), listOf(ofInt), opt(list()), list())
	sameValue(t, optOf(listOf(ofInt)), listOf(ofInt), opt(), api.ErrAbsent)
	sameValue(t, listOf(optOf(ofInt)), listOf(ofInt), list(opt(number(1)), opt()), api.ErrAbsent)
	becomes(t, listOf(optOf(ofInt)), optOf(listOf(ofInt)), list(), opt(list()))
}

// edgeInts are whole numbers about powers of two, both signs.
func edgeInts() []int64 {
	all := []int64{0, math.MinInt64, math.MaxInt64}
	for bit := range 63 {
		for d := int64(-5); d <= 5; d++ {
			all = append(all, 1<<bit+d, -1<<bit+d)
		}
	}
	for shift := range 11 {
		// Just as many bits as a float has, and one more.
		all = append(all, (1<<53-1)<<shift, -(1<<53-1)<<shift)
		if shift < 10 {
			all = append(all, (1<<54-1)<<shift, -(1<<54-1)<<shift)
		}
	}
	return all
}

// edgeFloats are floats about powers of two, halves, noughts, infinities and NaNs.
func edgeFloats() []float64 {
	all := []float64{0, minusZero, math.Inf(1), math.Inf(-1), math.MaxFloat64, -math.MaxFloat64, math.SmallestNonzeroFloat64, -math.SmallestNonzeroFloat64}
	for _, bits := range nanBits {
		all = append(all, math.Float64frombits(bits))
	}
	for power := -3; power <= 70; power++ {
		x := math.Ldexp(1, power)
		for _, near := range []float64{x, math.Nextafter(x, 0), math.Nextafter(x, math.Inf(1)), x + 0.5, x + 1, x - 1} {
			all = append(all, near, -near)
		}
	}
	return all
}

// TestIntsAsFloats: P9.1, P9.6: whole numbers read as floats, and back.
func TestIntsAsFloats(t *testing.T) {
	for _, n := range edgeInts() {
		v := number(n)
		e := asValue(t, ofInt, ofFloat, v)
		for _, one := range []struct {
			from, to api.Type
			v        api.Value
		}{{optOf(ofInt), optOf(ofFloat), opt(v)}, {optOf(ofInt), ofFloat, opt(v)}, {ofInt, optOf(ofFloat), v}, {listOf(ofInt), listOf(ofFloat), list(number(1), v)}} {
			told := sameValue(t, one.from, one.to, one.v, e)
			if e == api.OK {
				becomes(t, one.to, one.from, told, one.v)
			}
		}
	}
	for _, n := range []int64{1<<53 - 1, 1 << 53, 1<<53 + 2, -1 << 53, math.MinInt64, math.MaxInt64 - 1023, 1 << 62} {
		becomes(t, ofInt, ofFloat, number(n), float(float64(n)))
	}
	for _, n := range []int64{1<<53 + 1, -1<<53 - 1, math.MaxInt64, math.MaxInt64 - 1022, math.MinInt64 + 1} {
		sameValue(t, ofInt, ofFloat, number(n), api.ErrLossy)
	}
	if told := sameValue(t, ofInt, ofFloat, number(0), api.OK); math.Float64bits(told.Float) != 0 {
		t.Fatalf("0 is read as %x", math.Float64bits(told.Float))
	}
}

// TestFloatsAsInts: P9.1, P9.6: floats read as whole numbers, and back; as floats all of them, with the one NaN.
func TestFloatsAsInts(t *testing.T) {
	for _, x := range edgeFloats() {
		v := float(x)
		e := asValue(t, ofFloat, ofInt, v)
		for _, one := range []struct {
			from, to api.Type
			v        api.Value
		}{{optOf(ofFloat), optOf(ofInt), opt(v)}, {optOf(ofFloat), ofInt, opt(v)}, {ofFloat, optOf(ofInt), v}, {listOf(ofFloat), listOf(ofInt), list(float(1), v)}} {
			told := sameValue(t, one.from, one.to, one.v, e)
			if e == api.OK {
				becomes(t, one.to, one.from, told, one.v)
			}
		}
		becomes(t, ofFloat, ofFloat, v, float(math.Float64frombits(fixedBits(x))))
		becomes(t, optOf(listOf(ofFloat)), listOf(optOf(ofFloat)), opt(list(v)), list(opt(float(math.Float64frombits(fixedBits(x))))))
	}
	for _, x := range []float64{minusZero, 0.5, -0.5, 1 << 63, math.Inf(1), math.Inf(-1), math.NaN(), math.Nextafter(-1<<63, math.Inf(-1)), math.SmallestNonzeroFloat64} {
		sameValue(t, ofFloat, ofInt, float(x), api.ErrLossy)
	}
	for _, bits := range nanBits {
		sameValue(t, ofFloat, ofInt, nan(bits), api.ErrLossy)
		becomes(t, ofFloat, ofFloat, nan(bits), nan(theNaN))
		becomes(t, listOf(ofFloat), listOf(optOf(ofFloat)), list(nan(bits)), list(opt(nan(theNaN))))
	}
	becomes(t, ofFloat, ofInt, float(0), number(0))
	becomes(t, ofFloat, ofInt, float(-1<<63), number(math.MinInt64))
	becomes(t, ofFloat, ofInt, float(math.Nextafter(1<<63, 0)), number(math.MaxInt64-1023))
	becomes(t, ofFloat, ofInt, float(1<<53+2), number(1<<53+2))
}

// TestTexts: P9.1: bytes that are right UTF-8, and such that are none, read as a text and back.
func TestTexts(t *testing.T) {
	var all []string
	for a := range 256 {
		all = append(all, string([]byte{byte(a)}))
		for b := range 256 {
			all = append(all, string([]byte{byte(a), byte(b)}))
		}
	}
	for _, s := range []string{"\ufffd", "\u20ac", "\U0010ffff", "\xed\x9f\xbf", "\xee\x80\x80", "\xed\xa0\x80", "\xed\xbf\xbf", "\xf4\x8f\xbf\xbf", "\xf4\x90\x80\x80", "\xe0\x80\x80", "\xe0\x9f\xbf", "\xf0\x80\x80\x80", "\xf8\x88\x80\x80\x80", "\xe2\x82"} {
		all = append(all, s, "a"+s, s+"a", s+s, s+"\xff")
	}
	all = append(all, strings.Repeat("\u00e9", 512), strings.Repeat("a", 1024), strings.Repeat("a", 1023)+"\xc3", "\xff"+strings.Repeat("a", 1023))
	for _, s := range all {
		e := asValue(t, ofBytes, ofText, rawBytes(s))
		becomes(t, ofBytes, ofBytes, rawBytes(s), rawBytes(s))
		sameValue(t, listOf(ofBytes), listOf(ofText), list(rawBytes("a"), rawBytes(s)), e)
		sameValue(t, optOf(ofBytes), ofText, opt(rawBytes(s)), e)
		if e == api.OK {
			becomes(t, ofText, ofBytes, text(s), rawBytes(s))
			becomes(t, ofBytes, ofText, rawBytes(s), text(s))
			becomes(t, ofText, ofText, text(s), text(s))
		} else {
			sameValue(t, ofText, ofBytes, text(s), api.ErrUtf)
		}
	}
}

// TestFirstItem: P9.1: of several Items with errors the first one's is told.
func TestFirstItem(t *testing.T) {
	numbers := map[api.Errno]api.Value{api.OK: opt(number(1)), api.ErrAbsent: opt(), api.ErrLossy: opt(number(1<<53 + 1))}
	texts := map[api.Errno]api.Value{api.OK: opt(rawBytes("a")), api.ErrAbsent: opt(), api.ErrUtf: opt(rawBytes("\xff"))}
	for _, one := range []struct {
		from, to api.Type
		items    map[api.Errno]api.Value
	}{{optOf(ofInt), ofFloat, numbers}, {optOf(ofBytes), ofText, texts}} {
		for a, v := range one.items {
			for b, w := range one.items {
				for c, x := range one.items {
					errors := []api.Errno{a, b, c}
					want := api.OK
					if i := slices.IndexFunc(errors, func(e api.Errno) bool { return e != api.OK }); i >= 0 {
						want = errors[i]
					}
					sameValue(t, listOf(one.from), listOf(one.to), list(v, w, x), want)
					sameValue(t, listOf(one.from), optOf(listOf(one.to)), list(v, w, x), want)
					sameValue(t, within(2, api.List, one.from), within(2, api.List, one.to), list(list(v), list(), list(w, x)), want)
					sameValue(t, within(2, api.List, one.from), within(2, api.List, one.to), list(list(), list(v, w), list(x)), want)
				}
			}
		}
	}
	// An Item is read to its end, ahead of the next one.
	from, to := listOf(optOf(listOf(ofInt))), within(2, api.List, ofFloat)
	sameValue(t, from, to, list(opt(list(number(1), number(1<<53+1))), opt()), api.ErrLossy)
	sameValue(t, from, to, list(opt(), opt(list(number(1<<53+1)))), api.ErrAbsent)
}

// TestMostItems: P9.1: lists of MaxItems, with an error in the last of them, and of one more.
func TestMostItems(t *testing.T) {
	becomes(t, listOf(ofInt), listOf(ofFloat), list(times(256, number(7))...), list(times(256, float(7))...))
	sameValue(t, listOf(ofInt), listOf(ofFloat), list(append(times(255, number(7)), number(1<<53+1))...), api.ErrLossy)
	sameValue(t, listOf(ofInt), listOf(ofFloat), list(times(257, number(7))...), api.ErrMany)
	becomes(t, within(2, api.List, ofText), within(2, api.List, ofBytes), list(times(256, list(text("a")))...), list(times(256, list(rawBytes("a")))...))
	three := func(v api.Value) api.Value { return list(times(30, list(times(30, list(times(30, v)...))...))...) }
	becomes(t, within(3, api.List, ofBool), within(3, api.List, ofInt), three(boolean(1)), three(number(1)))
}

// wrongTypes are types that may not be, by their errors.
func wrongTypes() map[api.Errno][]api.Type {
	return map[api.Errno][]api.Type{
		api.ErrKind: {{}, kind(-1), kind(8), kind(math.MaxInt), kind(api.Opt), kind(api.List), kind(api.Opt, ofInt, ofInt), kind(api.List, ofInt, ofInt), kind(api.Int, ofInt), kind(api.Text, ofText), listOf(kind(0)), optOf(kind(api.Opt)), within(3, api.List, kind(9))},
		api.ErrDeep: {within(4, api.List, ofInt), within(4, api.Opt, ofText), within(4, api.Opt, kind(8)), within(6, api.List, ofBool)},
	}
}

// wrongValues are values that may not be, by their errors.
func wrongValues() map[api.Errno][]api.Value {
	return map[api.Errno][]api.Value{
		api.ErrKind: {{}, {Kind: 8}, boolean(2), boolean(-1), {Kind: api.Int, Float: minusZero}, {Kind: api.Int, Text: "a"}, {Kind: api.Float, Int: 1}, {Kind: api.Text, Items: times(1, number(1))}, opt(number(1), number(2)), list(number(1), api.Value{}), opt(boolean(2))},
		api.ErrUtf:  {text("\xff"), text("a\xc3"), list(text("a"), text("\xed\xa0\x80")), opt(text("\xff"))},
		api.ErrLong: {text(strings.Repeat("a", 1025)), rawBytes(strings.Repeat("\xff", 1025)), list(rawBytes(strings.Repeat("a", 1025)))},
		api.ErrMany: {list(times(257, number(1))...), opt(list(times(257, text("\xff"))...))},
		api.ErrDeep: {list(list(list(list(number(1))))), opt(opt(opt(opt(opt()))))},
	}
}

// TestWrongTypes: P9.1: the error of from, then that of to, ahead of all that the value has.
func TestWrongTypes(t *testing.T) {
	var all []api.Value
	for _, one := range everyType()[:15] {
		all = append(all, valuesOf(one)...)
	}
	for _, l := range wrongValues() {
		all = append(all, l...)
	}
	for e, types := range wrongTypes() {
		for _, wrong := range types {
			if got := schema.CheckType(wrong); got != e {
				t.Fatalf("CheckType(%.40s): %d, want %d", shown(wrong), got, e)
			}
			for _, v := range all {
				for _, right := range everyType()[:15] {
					sameValue(t, wrong, right, v, e)
					sameValue(t, right, wrong, v, e)
				}
				for _, others := range wrongTypes() {
					for _, other := range others {
						sameValue(t, wrong, other, v, e)
					}
				}
			}
		}
	}
}

// TestWrongValues: P9.1: a value that may not be has its own error, one that is not of from ErrType; both ahead of ErrKind.
func TestWrongValues(t *testing.T) {
	types := everyType()[:35]
	for e, l := range wrongValues() {
		for _, v := range l {
			if got := value.Check(v); got != e {
				t.Fatalf("value.Check(%.300s): %d, want %d", exact(v), got, e)
			}
			for _, from := range types {
				for _, to := range types {
					sameValue(t, from, to, v, e)
				}
			}
		}
	}
	for _, from := range types {
		for _, is := range types {
			if shown(from) == shown(is) {
				continue
			}
			for _, v := range valuesOf(is) {
				if schema.Is(v, from) {
					continue // nothing of an Opt or a list
				}
				for _, to := range types[:15] {
					sameValue(t, from, to, v, api.ErrType)
				}
			}
		}
	}
	// The type of an Item that stands behind right ones, or deeper.
	sameValue(t, listOf(ofInt), listOf(ofFloat), list(number(1<<53+1), text("a")), api.ErrType)
	sameValue(t, listOf(ofInt), listOf(ofText), list(number(1), float(1)), api.ErrType)
	sameValue(t, optOf(listOf(ofInt)), ofText, opt(list(opt())), api.ErrType)
	sameValue(t, listOf(ofInt), listOf(ofInt), list(number(1), text("\xff")), api.ErrUtf)
}

// TestItself: P9.5, P9.6: a value read as its own type is itself; as an opt of it, and back, likewise.
func TestItself(t *testing.T) {
	for _, of := range everyType() {
		for _, v := range valuesOf(of) {
			told := sameValue(t, of, of, v, api.OK)
			if exact(told) != fixed(v) || !value.Same(told, v) {
				t.Fatalf("Value(%s) of itself: %.300s, want %.300s", shown(of), exact(told), fixed(v))
			}
			if schema.CheckType(optOf(of)) != api.OK {
				continue
			}
			as := sameValue(t, of, optOf(of), v, api.OK)
			if of.Kind != api.Opt && exact(as) != fixed(opt(v)) {
				t.Fatalf("Value(%s) as an opt: %.300s", shown(of), exact(as))
			}
			becomes(t, optOf(of), of, as, told)
		}
	}
}
