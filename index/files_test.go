package index_test

import (
	"encoding/binary"
	"math"
	"slices"

	"gabion/api"
	"gabion/frame"
)

// someRows are n rows of a schema, mixed ones.
func someRows(s api.Schema, n int, seed uint64) []api.Row {
	r := &source{mixedBytes(seed, 4000, 0)}
	l := r.rows(s, n)
	if len(l) != n {
		panic("rows that may not be a block")
	}
	return l
}

// longFile is a whole file of n data frames and more: a schema frame each eight data frames, now and then another schema or an index; the last frame is an index.
func longFile(n int) *laid {
	l := &laid{}
	schemas := []api.Schema{ints, two, floats, nested, texts, wide(16)}
	for i := range n {
		number := int64(i / 7)
		s := schemas[number%6]
		if i%8 == 0 || i%7 == 0 {
			l.schema(number, s)
		}
		l.data(someRows(s, 1+i*5%9, uint64(i)))
		if i%5 == 4 && i < n-1 {
			l.index()
		}
	}
	l.index()
	return l
}

// plainFile is a file of one schema frame and data frames of so many rows each, whose numbers count up.
func plainFile(sizes ...int) *laid {
	l := &laid{}
	l.schema(0, ints)
	n := int64(0)
	for _, size := range sizes {
		var rows []api.Row
		for range size {
			rows = append(rows, values(number(100+n)))
			n++
		}
		l.data(rows)
	}
	return l
}

// exampleFile is that of the chapter's examples.
func exampleFile() *laid {
	l := &laid{}
	l.schema(0, ints)
	l.data(numbers(1, 2))
	l.data(numbers(3))
	l.index()
	return l
}

// fullFrame is a first data frame of two rows of bytes, and their schema, whose run has just n bytes, from 2000 on: they are packed in tokens of one byte and, a few, of two.
func fullFrame(n int) (api.Schema, api.Frame) {
	s := of(plain("a", ofBytes))
	for size := 400; size < 600; size++ {
		written := join(rowBytes(500), rowBytes(size))
		for pairs := range 20 {
			f := dataFrame(0, 0, 0, 2, tokens(written, pairs))
			if b, e := frame.Encode(f); e == api.OK && len(b) == n+2 {
				return s, f
			}
		}
	}
	panic("no such frame")
}

// rowBytes are the bytes of a row of n bytes.
func rowBytes(n int) []byte { return append(binary.AppendUvarint(nil, uint64(n)), row(5, n)...) }

// tokens are bytes packed in tokens of one byte each, but the first ones of two.
func tokens(b []byte, pairs int) string {
	told := []byte{1}
	for len(b) > 0 {
		k := 1
		if pairs > 0 {
			k = 2
		}
		pairs--
		told = append(append(told, byte(2*k)), b[:k]...)
		b = b[k:]
	}
	return string(told)
}

// wholeFiles are whole files, all of whose blocks are rows: with a fresh index at the end, with one that is not, with none.
func wholeFiles() []*laid {
	var files []*laid
	add := func(lay func(l *laid)) {
		l := &laid{}
		lay(l)
		files = append(files, l)
	}
	add(func(l *laid) {})
	add(func(l *laid) { l.schema(0, ints) })
	add(func(l *laid) { l.index() })
	add(func(l *laid) { l.index(); l.index() })
	add(func(l *laid) { l.schema(0, ints); l.index() })
	add(func(l *laid) { l.schema(0, ints); l.data(numbers(5)) })
	add(func(l *laid) { l.schema(0, ints); l.data(numbers(5)); l.index(); l.index() })
	add(func(l *laid) { l.schema(0, ints); l.data(numbers(5)); l.schema(0, ints); l.index() })
	add(func(l *laid) { l.schema(0, ints); l.data(numbers(5)); l.index(); l.schema(1, texts) })
	add(func(l *laid) { l.schema(0, ints); l.data(numbers(5, 6)); l.index(); l.data(numbers(7)) })
	add(func(l *laid) {
		l.schema(0, ints)
		l.data(numbers(1, 2))
		l.data(numbers(-3))
		l.data(numbers(slices.Repeat([]int64{7, 8}, 32)...))
		l.index()
	})
	add(func(l *laid) {
		l.schema(0, ints)
		l.data(numbers(1, 2))
		l.schema(1, texts)
		l.data(rows(text("x")))
		l.index()
	})
	add(func(l *laid) {
		l.index()
		l.schema(0, nested)
		l.index()
		l.data(someRows(nested, 3, 1))
		l.schema(0, nested)
		l.data(someRows(nested, 5, 2))
		l.index()
		l.index()
		l.schema(0, nested)
		l.schema(1, floats)
		l.schema(2, two)
		l.data(someRows(two, 4, 3))
		l.schema(2, two)
		l.schema(2, two)
		l.index()
		l.data(someRows(two, 2, 4))
		l.data(someRows(two, 2, 5))
		l.index()
	})
	add(func(l *laid) {
		s, f := fullFrame(maxFrame)
		l.schema(0, s)
		l.lay(f)
		l.index()
	})
	return append(files, plainFile(1, 2, 3), plainFile(3, 1, 4, 1, 5, 9, 2, 6, 5), longFile(4), longFile(5), longFile(9), longFile(21))
}

// asked are numbers of rows: below 0, of each row, just behind the last one, and far behind.
func (l *laid) asked() []int64 {
	all := []int64{math.MinInt64, -100, -1}
	for n := range l.Rows() {
		all = append(all, n)
	}
	return append(all, l.behind()...)
}

// behind are numbers of rows that there are not.
func (l *laid) behind() []int64 {
	n := l.Rows()
	return []int64{n, n + 1, n + 64, 1<<31 + n, 1 << 40, math.MaxInt64 - 1, math.MaxInt64}
}

// edges are the first and the last row of each block, and those beside them.
func (l *laid) edges() []int64 {
	var all []int64
	for one := range l.of(2) {
		last := one.f.First + int64(one.f.Rows) - 1
		all = append(all, one.f.First, one.f.First+1, last-1, last)
	}
	slices.Sort(all)
	return slices.DeleteFunc(slices.Compact(all), func(n int64) bool { return n < 0 || n >= l.Rows() })
}
