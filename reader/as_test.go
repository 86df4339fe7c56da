package reader_test

import (
	"math"
	"slices"
	"strings"
	"testing"

	"gabion/api"
	"gabion/dev"
	"gabion/reader"
	"gabion/resolve"
	"gabion/schema"
)

// mustRefuse asks that As has an error, told by hand, and then no reader; nothing is read.
func mustRefuse(t *testing.T, d *dev.Dev, s api.Schema, names []string, want api.Errno) {
	t.Helper()
	before, counted := state(d), d.Counted()
	r, e := reader.As(d, s, names)
	if r != nil || e != want {
		t.Fatalf("As(%s, %q): a reader: %v, %d, want %d", brief(schemaText(s)), names, r != nil, e, want)
	}
	if state(d) != before || d.Counted() != counted {
		t.Fatalf("As(%s, %q): the file was read or changed", brief(schemaText(s)), names)
	}
}

// wrongSchemas may not be, in each of schema.Check's ways.
func wrongSchemas() []struct {
	s    api.Schema
	want api.Errno
} {
	return []struct {
		s    api.Schema
		want api.Errno
	}{
		{of(), api.ErrEmpty}, {wide(17), api.ErrMany}, {wide(100), api.ErrMany},
		{of(plain("", ofInt)), api.ErrName}, {of(plain("A", ofInt)), api.ErrName}, {of(plain("a", ofInt), plain("1a", ofInt)), api.ErrName}, {of(plain("a2345678901234567", ofInt)), api.ErrName},
		{of(plain("a", ofInt), plain("a", ofInt)), api.ErrTwice}, {of(plain("a", ofInt), plain("b", ofInt), plain("a", kind(8))), api.ErrTwice},
		{of(plain("a", kind(0))), api.ErrKind}, {of(plain("a", kind(8))), api.ErrKind}, {of(plain("a", kind(api.List))), api.ErrKind}, {of(plain("a", kind(api.Int, ofInt))), api.ErrKind}, {of(with("a", ofBool, boolean(2))), api.ErrKind},
		{of(plain("a", listOf(listOf(listOf(listOf(ofInt)))))), api.ErrDeep}, {of(with("a", ofInt, list(list(list(list(number(1))))))), api.ErrDeep},
		{of(with("a", ofText, number(5))), api.ErrType}, {of(with("a", listOf(ofInt), list(number(1), text("")))), api.ErrType}, {of(api.Column{Name: "a", Type: ofInt, Default: number(0)}), api.ErrType}, {of(api.Column{Name: "a", Type: ofFloat, Default: api.Value{Float: math.Copysign(0, -1)}}), api.ErrType},
		{of(with("a", ofText, text("\xff"))), api.ErrUtf}, {of(with("a", ofText, text(strings.Repeat("a", 1025)))), api.ErrLong}, {of(with("a", listOf(ofInt), list(slices.Repeat([]api.Value{number(1)}, 257)...))), api.ErrMany},
		{longSchema(1025), api.ErrLong},
	}
}

// TestAsSchemaErrors: P16.1: each error of schema.Check, with names and without, which it comes ahead of; and then no reader, also of a file that is down.
func TestAsSchemaErrors(t *testing.T) {
	_, d := exampleFile()
	down := d.Clone()
	takeDown(down)
	for _, x := range wrongSchemas() {
		if e := schema.Check(x.s); e != x.want {
			t.Fatalf("schema.Check(%s): %d, want %d", brief(schemaText(x.s)), e, x.want)
		}
		for _, names := range [][]string{nil, {}, {"a"}, {"a", "a"}, {"none"}, {""}, {"c0", "c1"}} {
			mustRefuse(t, d, x.s, names, x.want)
			mustRefuse(t, down, x.s, names, x.want)
		}
	}
}

// TestAsNameErrors: P16.1: each error of resolve.Project, of a schema that may be; which comes first.
func TestAsNameErrors(t *testing.T) {
	_, d := exampleFile()
	s := of(plain("a", ofInt), with("b", ofText, text("x")), plain("c", ofBool))
	for _, x := range []struct {
		names []string
		want  api.Errno
	}{
		{[]string{"a", "a"}, api.ErrTwice}, {[]string{"a", "b", "a"}, api.ErrTwice}, {[]string{"a", "a", "none"}, api.ErrTwice}, {[]string{"a", "b", "c", "c"}, api.ErrTwice},
		{[]string{"none"}, api.ErrMissing}, {[]string{""}, api.ErrMissing}, {[]string{"A"}, api.ErrMissing}, {[]string{"a", "none"}, api.ErrMissing}, {[]string{"a", "none", "a"}, api.ErrMissing}, {[]string{"none", "none"}, api.ErrMissing}, {[]string{"a", "b", "c", "d"}, api.ErrMissing}, {[]string{"a "}, api.ErrMissing}, {[]string{strings.Repeat("a", 5000)}, api.ErrMissing},
	} {
		if _, e := resolve.Project(s, x.names); e != x.want {
			t.Fatalf("resolve.Project of %q: %d, want %d", x.names, e, x.want)
		}
		mustRefuse(t, d, s, x.names, x.want)
	}
}

// TestAsNames: P16.1, P16.2: no names, one, several, all of them, in each order.
func TestAsNames(t *testing.T) {
	s := of(plain("a", ofInt), plain("b", ofText), plain("c", ofBool))
	l := &laid{}
	l.schema(0, s)
	l.data([]api.Row{values(number(1), text("x"), boolean(0)), values(number(2), text("y"), boolean(1))})
	d := device(l.b)
	first := map[string]api.Value{"a": number(1), "b": text("x"), "c": boolean(0)}
	second := map[string]api.Value{"a": number(2), "b": text("y"), "c": boolean(1)}
	for _, names := range [][]string{
		nil, {}, {"a"}, {"b"}, {"c"}, {"a", "b"}, {"b", "a"}, {"a", "c"}, {"c", "a"}, {"b", "c"}, {"c", "b"},
		{"a", "b", "c"}, {"a", "c", "b"}, {"b", "a", "c"}, {"b", "c", "a"}, {"c", "a", "b"}, {"c", "b", "a"},
	} {
		var one0, one1 []api.Value
		columns := names
		if len(names) == 0 {
			columns = []string{"a", "b", "c"}
		}
		for _, name := range columns {
			one0, one1 = append(one0, first[name]), append(one1, second[name])
		}
		as(t, d, s, names...).must(t, api.OK, one(0, 0, one0...), one(1, 0, one1...))
	}
	wideFile := &laid{}
	wideFile.schema(0, wide(16))
	wideFile.data(someRows(wide(16), 9, 3))
	p := as(t, device(wideFile.b), wide(16))
	if got, want := p.toEnd(t), raw(t, p.d).toEnd(t); toldText(got...) != toldText(want...) {
		t.Fatalf("all of sixteen columns: %s", brief(toldText(got...)))
	}
}

// TestAsNamesLeaveOut: P16.1: a column that is not named hinders no row, though it would, were it named.
func TestAsNamesLeaveOut(t *testing.T) {
	_, d := exampleFile()
	s := of(plain("a", ofInt), plain("b", ofInt), plain("z", ofBool), with("y", ofFloat, bits(0xfff8000000000001)))
	as(t, d, s).must(t, api.OK, refused(0, 0, api.ErrMissing), refused(1, 0, api.ErrMissing), refused(2, 1, api.ErrKind))
	as(t, d, s, "a").must(t, api.OK, one(0, 0, number(1)), one(1, 0, number(2)), one(2, 1, number(3)))
	as(t, d, s, "y", "a").must(t, api.OK, one(0, 0, bits(theNaN), number(1)), one(1, 0, bits(theNaN), number(2)), one(2, 1, bits(theNaN), number(3)))
	as(t, d, s, "a", "b").must(t, api.OK, refused(0, 0, api.ErrMissing), refused(1, 0, api.ErrMissing), refused(2, 1, api.ErrKind))
	as(t, d, s, "z").must(t, api.OK, refused(0, 0, api.ErrMissing), refused(1, 0, api.ErrMissing), refused(2, 1, api.ErrMissing))
}

// TestAsSchemas: P16.2: a schema that all frames' schemas can be read under, and such that some, or none, can't: E, and a Row that is zero; those behind go on.
func TestAsSchemas(t *testing.T) {
	l := &laid{}
	l.schema(0, ints)
	l.data(numbers(1, 0))
	l.schema(1, texts)
	l.data(rows(text("x")))
	l.schema(2, of(plain("a", optOf(ofInt)), plain("b", ofText)))
	l.data([]api.Row{values(opt(number(7)), text("y")), values(opt(), text("z"))})
	l.schema(3, of(plain("b", ofBytes)))
	l.data(rows(rawBytes("\xff"), rawBytes("q")))
	d := device(l.b)
	b := with("b", ofText, text("d"))
	as(t, d, of(b)).must(t, api.OK, one(0, 0, text("d")), one(1, 0, text("d")), one(2, 1, text("d")), one(3, 2, text("y")), one(4, 2, text("z")), refused(5, 3, api.ErrUtf), one(6, 3, text("q")))
	as(t, d, of(plain("a", ofFloat), b)).must(t, api.OK, one(0, 0, float(1), text("d")), one(1, 0, float(0), text("d")), refused(2, 1, api.ErrKind), one(3, 2, float(7), text("y")), refused(4, 2, api.ErrAbsent), refused(5, 3, api.ErrMissing), refused(6, 3, api.ErrMissing))
	as(t, d, of(with("a", optOf(ofInt), opt()))).must(t, api.OK, one(0, 0, opt(number(1))), one(1, 0, opt(number(0))), refused(2, 1, api.ErrKind), one(3, 2, opt(number(7))), one(4, 2, opt()), one(5, 3, opt()), one(6, 3, opt()))
	as(t, d, of(plain("b", ofBytes))).must(t, api.OK, refused(0, 0, api.ErrMissing), refused(1, 0, api.ErrMissing), refused(2, 1, api.ErrMissing), one(3, 2, rawBytes("y")), one(4, 2, rawBytes("z")), one(5, 3, rawBytes("\xff")), one(6, 3, rawBytes("q")))
	as(t, d, of(plain("none", ofBytes))).must(t, api.OK, refused(0, 0, api.ErrMissing), refused(1, 0, api.ErrMissing), refused(2, 1, api.ErrMissing), refused(3, 2, api.ErrMissing), refused(4, 2, api.ErrMissing), refused(5, 3, api.ErrMissing), refused(6, 3, api.ErrMissing))
}

// TestAsRows: P16.2: rows of one frame, some of which have an error: each of resolve's that a row may have.
func TestAsRows(t *testing.T) {
	l := &laid{}
	l.schema(0, of(plain("n", ofInt), plain("f", ofFloat), plain("o", optOf(ofInt)), plain("b", ofBytes)))
	l.data([]api.Row{
		values(number(1), float(2), opt(number(3)), rawBytes("x")),
		values(number(1<<53+1), float(2), opt(number(3)), rawBytes("x")),
		values(number(1), bits(1<<63), opt(number(3)), rawBytes("x")),
		values(number(1), float(2), opt(), rawBytes("x")),
		values(number(1), float(2), opt(number(3)), rawBytes("\xc3")),
		values(number(1<<53+1), bits(theNaN), opt(), rawBytes("\xc3")),
		values(number(0), float(-2), opt(number(-3)), rawBytes("")),
	})
	d := device(l.b)
	s := of(plain("b", ofText), plain("o", ofInt), plain("f", ofInt), plain("n", ofFloat))
	as(t, d, s).must(t, api.OK, one(0, 0, text("x"), number(3), number(2), float(1)), refused(1, 0, api.ErrLossy), refused(2, 0, api.ErrLossy), refused(3, 0, api.ErrAbsent), refused(4, 0, api.ErrUtf), refused(5, 0, api.ErrUtf), one(6, 0, text(""), number(-3), number(-2), float(0)))
	as(t, d, s, "o", "b").must(t, api.OK, one(0, 0, number(3), text("x")), one(1, 0, number(3), text("x")), one(2, 0, number(3), text("x")), refused(3, 0, api.ErrAbsent), refused(4, 0, api.ErrUtf), refused(5, 0, api.ErrAbsent), one(6, 0, number(-3), text("")))
}

// TestAsDown: P16.1, P16.2: a file that is down has a reader under a schema, too, which ends for ErrDown.
func TestAsDown(t *testing.T) {
	_, d := exampleFile()
	takeDown(d)
	as(t, d, ints).must(t, api.ErrDown)
	as(t, d, two, "b").must(t, api.ErrDown)
	as(t, device(nil), ints).must(t, api.OK)
}

// TestAsWhole: P16.2: whole files, under each other's schemas and under near ones, by Next and by All.
func TestAsWhole(t *testing.T) {
	schemas := []api.Schema{ints, two, texts, floats, nested, wide(16), longSchema(1024), of(with("a", optOf(ofFloat), opt(float(5))), with("b", ofBytes, rawBytes("\xff")), with("c", ofInt, number(9)), with("f", optOf(ofInt), opt()))}
	r := &source{mixedBytes(77, 5000, 0)}
	for _, l := range wholeFiles() {
		for _, s := range schemas {
			for _, under := range []api.Schema{s, r.near(s)} {
				as(t, device(l.b), under).toEnd(t)
				as(t, device(l.b), under, under.Columns[len(under.Columns)-1].Name).all(t)
			}
		}
	}
}

// TestAsIsNotRaw: P16.2: under a schema a row is read by its columns' names, not by their places; rows that could not be written under it by its default.
func TestAsIsNotRaw(t *testing.T) {
	l := &laid{}
	l.schema(0, of(plain("a", ofInt), plain("b", ofInt)))
	l.data([]api.Row{values(number(1), number(2))})
	d := device(l.b)
	as(t, d, of(plain("b", ofInt), plain("a", ofInt))).must(t, api.OK, one(0, 0, number(2), number(1)))
	as(t, d, of(plain("b", ofInt))).must(t, api.OK, one(0, 0, number(2)))
	as(t, d, of(with("x", listOf(ofFloat), list(bits(0x7ff0000000000001), bits(1<<63))))).must(t, api.OK, one(0, 0, list(bits(theNaN), bits(1<<63))))
}
