package text_test

import (
	"math"
	"strconv"
	"strings"
	"testing"

	"gabion/api"
	"gabion/schema"
	"gabion/value"
)

// source is bytes that are taken one by one; behind their end come zeros.
type source struct{ left []byte }

func (r *source) next() int {
	if len(r.left) == 0 {
		return 0
	}
	b := r.left[0]
	r.left = r.left[1:]
	return int(b)
}

// kinds is a type at a depth: most often one that may be.
func (r *source) kinds(depth int) api.Type {
	t := kind(1 + r.next()%7)
	wild := r.next()
	switch {
	case wild >= 254:
		return kind([]int{0, 8}[wild-254])
	case wild == 253:
		return kind(t.Kind, ofInt, ofInt)
	case wild == 252:
		return kind(api.Text, ofInt)
	case t.Kind < 6 || wild == 251 || depth > 4:
		return t
	case depth == 4 && wild < 150:
		return kind(1 + wild%5)
	}
	t.Of = []api.Type{r.kinds(depth + 1)}
	return t
}

var someInts = []int64{0, 1, -1, 10, -100, 1 << 53, math.MaxInt64, math.MinInt64, 12345}

var someTexts = []string{"", "a", "a, b", `"`, `'`, `\`, `\x41`, "\x00", "\x1f \x7e\x7f", "\u00e9", "\ufffd", strings.Repeat("ab", 60), "\xff", "a\xc3"}

var wrongValues = []api.Value{{}, {Kind: 8}, boolean(2), words("\xff"), opt(number(1), number(1)), list(times(257, boolean(1))...), words(strings.Repeat("a", 1025)), list(list(list(list(number(1))))), {Kind: api.Int, Float: minusZero}}

// value is a value that is most often of the type.
func (r *source) value(t api.Type) api.Value {
	v := api.Value{Kind: t.Kind}
	wild := r.next()
	if wild >= 240 {
		return wrongValues[r.next()%len(wrongValues)]
	}
	switch t.Kind {
	case api.Bool:
		v.Int = int64(wild % 2)
	case api.Int:
		v.Int = someInts[r.next()%len(someInts)]
		if wild%2 == 0 {
			v.Int = int64(mixed(uint64(r.next()))) >> (wild / 4)
		}
	case api.Float:
		v.Float = otherFloats[r.next()%len(otherFloats)]
		if wild%4 == 0 {
			v = nan(nanBits[wild/4%len(nanBits)])
		}
	case api.Text:
		v.Text = someTexts[r.next()%(len(someTexts)-2)]
	case api.Bytes:
		v.Text = someTexts[r.next()%len(someTexts)]
		if wild%2 == 0 {
			v.Text = string(mixedBytes(uint64(wild), r.next()%40))
		}
	case api.Opt, api.List:
		for range wild % (2 + t.Kind%2*2) {
			if len(t.Of) > 0 {
				v.Items = append(v.Items, r.value(t.Of[0]))
			}
		}
	}
	return v
}

// row is a row of a few values.
func (r *source) row() api.Row {
	var l []api.Value
	for range r.next() % 5 {
		l = append(l, r.value(r.kinds(1)))
	}
	return values(l...)
}

// schema is a schema: quite often one that may be.
func (r *source) schema() api.Schema {
	var s api.Schema
	for i := range 1 + r.next()%4 {
		c := plain("c"+strconv.Itoa(i), r.kinds(1))
		switch wild := r.next(); {
		case wild == 255:
			c.Name = []string{"", "A", "_a", "c0", "a b", strings.Repeat("a", 17)}[r.next()%6]
		case wild == 254:
			c.Default = number(1)
		case wild%2 == 1:
			c.Has, c.Default = true, r.value(c.Type)
		}
		s.Columns = append(s.Columns, c)
	}
	return s
}

// any is one of what there are texts of.
func (r *source) any() any {
	switch r.next() % 4 {
	case 0:
		return r.kinds(1)
	case 1:
		return r.schema()
	case 2:
		return r.value(r.kinds(1))
	}
	return r.row()
}

// many are so many mixed types, schemas, values, rows, right ones and wrong ones.
func many(n uint64) []any {
	var l []any
	for k := range n {
		l = append(l, (&source{mixedBytes(k, 200)}).any())
	}
	return l
}

// wordPrint is what a Print tells, by the words.
func wordPrint(x any) (string, api.Errno) {
	e, s := api.OK, func() string { return "" }
	switch x := x.(type) {
	case api.Type:
		e, s = schema.CheckType(x), func() string { return wordType(x) }
	case api.Schema:
		e, s = schema.Check(x), func() string { return wordSchema(x) }
	case api.Value:
		e, s = value.Check(x), func() string { return wordValue(x) }
	case api.Row:
		e, s = rowError(x), func() string { return wordRow(x) }
	}
	if e != api.OK {
		return "", e
	}
	return s(), api.OK
}

// asPrinted asks that x is printed as the words say, and read back from that; then, that the text is read as the words say, changed at a few places.
func asPrinted(t *testing.T, x any, r *source) api.Errno {
	t.Helper()
	want, e := wordPrint(x)
	samePrint(t, x, want, e)
	if e != api.OK {
		return e
	}
	b := []byte(want)
	for len(b) > 0 && len(r.left) > 0 {
		at := (r.next()<<8 + r.next()) % len(b)
		switch wild := r.next(); {
		case wild < 60:
			b = append(b[:at:at], b[at+1:]...)
		case wild < 120:
			b = append(b[:at:at], b[at/2:]...)
		default:
			b[at] = `()[],= ~"'\x0a1-nse`[wild%19]
		}
		if len(b) > 5000 {
			return e
		}
		for _, what := range faces {
			asWords(t, what, string(b))
		}
	}
	return e
}

// TestMixed: P21.1, P21.2, P21.3: mixed types, schemas, values, rows, and their texts, changed at a few places.
func TestMixed(t *testing.T) {
	counts := map[api.Errno]int{}
	for k, x := range many(12000) {
		counts[asPrinted(t, x, &source{mixedBytes(uint64(k)+1<<30, k%30)})]++
	}
	if counts[api.OK] < 6000 || counts[api.ErrKind] < 200 || counts[api.ErrDeep] < 100 || counts[api.ErrUtf] < 30 || counts[api.ErrMany] < 30 || counts[api.ErrLong] < 30 || counts[api.ErrType] < 30 || counts[api.ErrName] < 5 {
		t.Fatalf("too few: %v", counts)
	}
}

// FuzzPrint: P21.1, P21.2, P21.3: types, schemas, values, rows that bytes tell, and their texts, changed.
func FuzzPrint(f *testing.F) {
	for k := range uint64(30) {
		f.Add(mixedBytes(k, 100), mixedBytes(k+100, 12))
	}
	f.Fuzz(func(t *testing.T, b, changes []byte) {
		asPrinted(t, (&source{b}).any(), &source{changes})
	})
}

// FuzzParse: P21.2, P21.3: texts that the fuzzer makes up.
func FuzzParse(f *testing.F) {
	for _, l := range rightTexts() {
		for _, s := range l {
			f.Add(s)
		}
	}
	f.Fuzz(func(t *testing.T, s string) {
		for _, what := range faces {
			asWords(t, what, s)
		}
	})
}
