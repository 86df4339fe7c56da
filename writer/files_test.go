package writer_test

import (
	"math"
	"slices"
	"strings"

	"gabion/api"
)

// refusedSchema is a schema that may not be, and why.
type refusedSchema struct {
	s    api.Schema
	want api.Errno
}

// refusedSchemas are some for each error of schema.Check.
func refusedSchemas() []refusedSchema {
	deep := listOf(listOf(listOf(listOf(ofInt))))
	return []refusedSchema{
		{api.Schema{}, api.ErrEmpty}, {wide(17), api.ErrMany}, {of(plain("A", ofInt)), api.ErrName}, {of(plain("", ofInt)), api.ErrName}, {of(plain(strings.Repeat("a", 17), ofInt)), api.ErrName},
		{of(plain("a", ofInt), plain("a", ofText)), api.ErrTwice}, {of(plain("a", kind(8))), api.ErrKind}, {of(plain("a", kind(0))), api.ErrKind}, {of(plain("a", kind(api.List))), api.ErrKind}, {of(plain("a", deep)), api.ErrDeep},
		{of(with("a", ofText, number(5))), api.ErrType}, {of(api.Column{Name: "a", Type: ofInt, Default: number(0)}), api.ErrType}, {of(with("a", ofText, text("\xff"))), api.ErrUtf}, {of(with("a", ofBytes, rawBytes(strings.Repeat("x", 1025)))), api.ErrLong},
		{longSchema(1025), api.ErrLong},
	}
}

// refusedRows are rows that are no block of a schema, and why.
type refusedRows struct {
	s    api.Schema
	l    []api.Row
	want api.Errno
}

// allRefusedRows are some for each error of batch.Pack but those of schema.Check; where two apply, the first one that its chapter names.
func allRefusedRows() []refusedRows {
	long := strings.Repeat("x", 1022)
	return []refusedRows{
		{ints, nil, api.ErrEmpty}, {ints, []api.Row{}, api.ErrEmpty}, {ints, numbers(make([]int64, 65)...), api.ErrMany}, {ints, slices.Repeat([]api.Row{{}}, 65), api.ErrMany},
		{ints, []api.Row{{}}, api.ErrType}, {ints, []api.Row{values(number(1), number(2))}, api.ErrType}, {ints, rows(text("x")), api.ErrType}, {ints, rows(number(1), bits(0)), api.ErrType}, {ints, append(numbers(make([]int64, 63)...), values(text("x"))), api.ErrType},
		{ints, rows(api.Value{Kind: api.Int, Text: "x"}), api.ErrKind}, {ints, rows(api.Value{}), api.ErrKind}, {ints, rows(api.Value{Kind: 8}), api.ErrKind}, {two, []api.Row{values(number(1), text("\xff"))}, api.ErrUtf}, {texts, rows(text(strings.Repeat("x", 1025))), api.ErrLong},
		{texts, rows(text(long + "x")), api.ErrLong}, {texts, rows(text(long), text(long), text("")), api.ErrLong}, {texts, rows(text(long), text(long), number(1)), api.ErrType},
		{of(plain("a", listOf(ofBool))), rows(list(slices.Repeat([]api.Value{boolean(1)}, 257)...)), api.ErrMany}, {of(plain("a", ofBool)), rows(boolean(2)), api.ErrKind}, {nested, rows(list(opt(list(opt(list()))))), api.ErrType},
		{of(plain("a", listOf(listOf(listOf(ofInt))))), rows(list(list(list(list(number(1)))))), api.ErrDeep},
	}
}

// block is rows of a schema.
type block struct {
	s api.Schema
	l []api.Row
}

// blocks are blocks that may be: of each kind of value, of one row and of 64, short ones and such as are as long as they may be and are packed into no fewer bytes.
func blocks() []block {
	return []block{
		{ints, numbers(1)}, {ints, numbers(0, -1, math.MaxInt64, math.MinInt64, 64)}, {ints, numbers(make([]int64, 64)...)},
		{texts, rows(text(""))}, {texts, rows(text("é\x00"), text(strings.Repeat("xy", 511)))}, {texts, rows(text(strings.Repeat("x", 1022)), text(strings.Repeat("y", 1022)))},
		{blobs, rows(rawBytes(string(mixedBytes(1, 1022, 3))), rawBytes(string(mixedBytes(2, 1022, 0))))},
		{two, []api.Row{values(number(5), text("five")), values(number(-5), text(""))}},
		{floats, []api.Row{values(bits(1<<63), list()), values(bits(0xfff8000000000001), list(opt(bits(0x7ff0000000000001)), opt())), values(bits(0), list(opt(bits(0x7ff0000000000000))))}},
		{nested, []api.Row{values(list(opt(list(rawBytes("\x00\xff"), rawBytes(""))), opt()), opt(), boolean(1)), values(list(), opt(text("t")), boolean(0))}},
		{wide(16), []api.Row{values(slices.Repeat([]api.Value{number(-1 << 40)}, 16)...)}},
		{longSchema(1024), rows(rawBytes("x"))},
	}
}

// step is one call of a script: an Append under a schema, and a Change ahead of it, if it is another one.
type step = block

// script are appends under some schemas, in which a schema frame is due for each cause, and for none.
func script() []step {
	var l []step
	for range 10 {
		l = append(l, step{ints, numbers(1, 2, 3)})
	}
	l = append(l, blocks()...)
	for range 9 {
		l = append(l, step{two, []api.Row{values(number(7), text("seven"))}})
	}
	return append(l, step{ints, numbers(8)}, step{two, []api.Row{values(number(9), text(""))}})
}

// do makes the calls of some steps, all of which are answered OK.
func (p *twins) do(steps ...step) {
	p.t.Helper()
	for _, one := range steps {
		p.turn(one.s)
		p.Append(one.l, api.OK)
	}
}

// turn changes the schema, if it is another one.
func (p *twins) turn(s api.Schema) {
	p.t.Helper()
	if schemaText(s) != schemaText(p.s) {
		p.Change(s, api.OK)
	}
}

// foreignFiles are whole files that others wrote: with schema frames, indexes and data frames in whatever order; what of them is kept is told by how many frames.
func foreignFiles() []struct {
	*laid
	kept int
} {
	var files []struct {
		*laid
		kept int
	}
	add := func(kept int, lay func(l *laid)) {
		l := &laid{}
		lay(l)
		files = append(files, struct {
			*laid
			kept int
		}{l, kept})
	}
	add(0, func(l *laid) {})
	add(0, func(l *laid) { l.schema(0, ints) })
	add(0, func(l *laid) { l.schema(0, ints); l.schema(1, texts); l.schema(1, texts); l.schema(2, ints) })
	add(1, func(l *laid) { l.index() })
	add(2, func(l *laid) { l.index(); l.index() })
	add(2, func(l *laid) { l.schema(0, ints); l.index() })
	add(2, func(l *laid) { l.schema(0, ints); l.index(); l.schema(0, ints); l.schema(1, two) })
	add(2, func(l *laid) { l.schema(0, ints); l.data(1) })
	add(2, func(l *laid) { l.schema(0, ints); l.data(64); l.schema(1, two) })
	add(2, func(l *laid) { l.schema(0, ints); l.data(1); l.schema(0, ints) })
	add(3, func(l *laid) { l.schema(0, ints); l.data(1); l.index() })
	add(3, func(l *laid) { l.schema(0, ints); l.data(1); l.index(); l.schema(0, ints) })
	add(4, func(l *laid) { l.schema(0, ints); l.data(1); l.schema(0, ints); l.index() })
	add(5, func(l *laid) { l.schema(0, texts); l.schema(1, ints); l.data(2); l.index(); l.index() })
	add(4, func(l *laid) { l.schema(0, ints); l.schema(1, two); l.schema(2, ints); l.data(3) })
	for _, n := range []int{6, 7, 8, 9, 20, 270} {
		add(n+1, func(l *laid) { *l = *plainFile(n) })
		add(n+2, func(l *laid) { *l = *plainFile(n); l.index() })
	}
	return files
}
