package recast_test

import (
	"math"
	"strconv"
	"strings"
	"testing"

	"gabion/api"
	"gabion/batch"
	"gabion/dev"
	"gabion/schema"
	"gabion/writer"
)

// source is bytes that are taken one by one; behind their end come zeros.
type source struct{ left []byte }

func (r *source) next() int {
	if len(r.left) == 0 {
		return 0
	}
	b := r.left[0]
	r.left = r.left[1:]
	return int(b)
}

// kinds is a type at a depth, one that may be.
func (r *source) kinds(depth int) api.Type {
	k := 1 + r.next()%7
	switch {
	case k < 6:
		return kind(k)
	case depth == 4:
		return ofInt
	}
	return kind(k, r.kinds(depth+1))
}

var someInts = []int64{0, 1, -1, 1 << 53, odd, math.MaxInt64, math.MinInt64, 12345}

var someFloats = []uint64{0, 1 << 63, math.Float64bits(1), math.Float64bits(0.5), 0x7ff0000000000000, 0xfff0000000000000, theNaN, 0xfff8000000000001}

var someTexts = []string{"", "a", "\x00", "\u00e9", strings.Repeat("xy", 20), strings.Repeat("\x00", 300), strings.Repeat("z", 510), strings.Repeat("z", 1015), "\xff", "a\xc3"}

// value is a value of the type.
func (r *source) value(t api.Type) api.Value {
	v := api.Value{Kind: t.Kind}
	wild := r.next()
	switch t.Kind {
	case api.Bool:
		v.Int = int64(wild % 2)
	case api.Int:
		v.Int = someInts[wild%len(someInts)]
	case api.Float:
		v = bits(someFloats[wild%len(someFloats)])
	case api.Text:
		v.Text = someTexts[wild%8]
	case api.Bytes:
		v.Text = someTexts[wild%len(someTexts)]
	case api.Opt:
		for range wild % 3 % 2 {
			v.Items = append(v.Items, r.value(t.Of[0]))
		}
	case api.List:
		for range wild % 4 {
			v.Items = append(v.Items, r.value(t.Of[0]))
		}
	}
	return v
}

// rows are rows of a schema that may be a block; none, if there is none.
func (r *source) rows(s api.Schema) []api.Row {
	var l []api.Row
	for range []int{1, 2, 3, 5, 20, 64}[r.next()%6] {
		one := api.Row{}
		for _, c := range s.Columns {
			one.Values = append(one.Values, r.value(c.Type))
		}
		if _, e := batch.Size(s, append(l, one)); e != api.OK {
			break
		}
		l = append(l, one)
	}
	return l
}

// schema is a schema; most often one of a few.
func (r *source) schema() api.Schema {
	wild := r.next()
	if wild < 200 {
		all := append(readers(), floats, nested)
		return all[wild%len(all)]
	}
	var s api.Schema
	for i := range 1 + r.next()%3 {
		c := plain(string(rune('a'+i)), r.kinds(1))
		if r.next()%2 == 0 {
			c.Has, c.Default = true, r.value(c.Type)
		}
		s.Columns = append(s.Columns, c)
	}
	if schema.Check(s) != api.OK {
		return ints
	}
	return s
}

// file is a file of some appends; now and then torn, damaged, down, or with power that is bound to fail.
func (r *source) file(quota int) *dev.Dev {
	d := newDev(quota)
	for range r.next() % 8 {
		s := r.schema()
		w, _ := writer.Open(d, s)
		for range 1 + r.next()%3 {
			if l := r.rows(s); len(l) > 0 {
				w.Append(l)
			}
		}
		if r.next() > 200 {
			w.Close()
		}
	}
	place := r.next()<<8 + r.next()
	switch wild := r.next(); {
	case wild > 240:
		d.Damage(place%(d.Len()+1), byte(r.next()))
	case wild > 220:
		d.Cut(place % (d.Len() + 1))
	case wild > 210:
		d.Tail(mixedBytes(uint64(place), r.next(), 4))
	case wild > 200:
		takeDown(d)
	case wild > 150:
		d.Fail(place%700, r.next()*r.next())
	}
	return d
}

// recast makes one call, of files of any kind; and, where it is OK, of what came of it.
func (r *source) recast(t *testing.T, answers map[api.Errno]int) {
	t.Helper()
	s, most := r.schema(), []int{1, 2, 3, 7, 64}[r.next()%5]
	switch wild := r.next(); {
	case wild > 245:
		most = r.next() - 100
	case wild > 235:
		s = refusedSchemas()[r.next()%len(refusedSchemas())].s
	}
	to := newDev(maxQuota)
	if r.next() > 60 {
		to = r.file([]int{maxQuota, 60, 200, 500, 3000}[r.next()%5])
	}
	from := r.file(maxQuota)
	had := to.Clone()
	_, e := doRecast(t, from, to, s, most)
	answers[e]++
	if e != api.OK {
		return
	}
	if w, _ := writer.Open(had, ints); w != nil && had.Quota() == maxQuota { // repaired, as the recast has it
		had.Fail(math.MaxInt, 0)
		had.Start()
		mustFollow(t, from, had, s, most)
	}
}

// TestMixed: P22.1, P22.2: mixed files, whole and damaged ones, schemas, numbers of rows, quotas, power that fails.
func TestMixed(t *testing.T) {
	answers := map[api.Errno]int{}
	for k := range uint64(800) {
		(&source{mixedBytes(k, 1000, 5)}).recast(t, answers)
	}
	for _, e := range []api.Errno{api.OK, api.ErrArg, api.ErrLong, api.ErrDown, api.ErrPower, api.ErrNoSpace, api.ErrSum, api.ErrTorn, api.ErrDamaged, api.ErrFence} {
		if answers[e] < 5 {
			t.Fatalf("too few ended with %d: %s", e, showAnswers(answers))
		}
	}
	if answers[api.OK] < 300 {
		t.Fatalf("too few: %s", showAnswers(answers))
	}
}

func showAnswers(answers map[api.Errno]int) string {
	s := ""
	for e := range api.Errno(200) {
		if answers[e] > 0 {
			s += " " + strconv.Itoa(int(e)) + ": " + strconv.Itoa(answers[e])
		}
	}
	return s
}

// FuzzRecast: P22.1, P22.2: files, schemas, numbers of rows that the fuzzer makes up.
func FuzzRecast(f *testing.F) {
	for k := range uint64(40) {
		f.Add(mixedBytes(k, 100+10*int(k), 5))
	}
	f.Fuzz(func(t *testing.T, b []byte) {
		(&source{b}).recast(t, map[api.Errno]int{})
	})
}
