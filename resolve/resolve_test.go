package resolve_test

import (
	"slices"
	"strings"
	"testing"

	"gabion/api"
	"gabion/resolve"
	"gabion/schema"
	"gabion/value"
)

// sameCheck asks what Check answers, by the words too.
func sameCheck(t *testing.T, from, to api.Schema, want api.Errno) {
	t.Helper()
	if e := wordCheck(from, to); e != want {
		t.Fatalf("by the words Check(%.300s; %.300s) is %d, not %d", columns(from, exact), columns(to, exact), e, want)
	}
	if e := resolve.Check(from, to); e != want {
		t.Fatalf("Check(%.300s; %.300s): %d, want %d", columns(from, exact), columns(to, exact), e, want)
	}
}

// sameRow asks what Row answers, by the words too, and whether each value is of its column's type; where Check has an error, whether Row has just that one.
func sameRow(t *testing.T, from, to api.Schema, r api.Row, want api.Errno) api.Row {
	t.Helper()
	words, wordE := wordRow(from, to, r)
	if wordE != want {
		t.Fatalf("by the words Row(%.300s; %.300s; %.300s) is %d, not %d", columns(from, exact), columns(to, exact), exact(r.Values...), wordE, want)
	}
	told, e := resolve.Row(from, to, r)
	if e != want || exact(told.Values...) != exact(words.Values...) {
		t.Fatalf("Row(%.300s; %.300s; %.300s): %.300s, %d, want %.300s, %d", columns(from, exact), columns(to, exact), exact(r.Values...), exact(told.Values...), e, exact(words.Values...), want)
	}
	if check := resolve.Check(from, to); check != api.OK && check != e {
		t.Fatalf("Check(%.300s; %.300s): %d, but Row tells %d", columns(from, exact), columns(to, exact), check, e)
	}
	if e != api.OK {
		if len(told.Values) != 0 {
			t.Fatalf("%d Values beside the error %d", len(told.Values), e)
		}
		return told
	}
	for i, c := range to.Columns {
		if len(told.Values) != len(to.Columns) || !schema.Is(told.Values[i], c.Type) {
			t.Fatalf("Row(%.300s; %.300s; %.300s): %.300s is not of the schema", columns(from, exact), columns(to, exact), exact(r.Values...), exact(told.Values...))
		}
	}
	return told
}

// asRow is sameRow with the error that the words tell.
func asRow(t *testing.T, one reading) api.Errno {
	t.Helper()
	_, e := wordRow(one.from, one.to, one.r)
	sameRow(t, one.from, one.to, one.r, e)
	return e
}

// rowIs asks for just that row.
func rowIs(t *testing.T, from, to api.Schema, r, want api.Row) {
	t.Helper()
	if told := sameRow(t, from, to, r, api.OK); exact(told.Values...) != exact(want.Values...) {
		t.Fatalf("Row(%.300s; %.300s; %.300s): %.300s, want %.300s", columns(from, exact), columns(to, exact), exact(r.Values...), exact(told.Values...), exact(want.Values...))
	}
}

// sameProject asks what Project answers, by the words too, and whether that may be.
func sameProject(t *testing.T, s api.Schema, names []string, want api.Errno) api.Schema {
	t.Helper()
	words, wordE := wordProject(s, names)
	if wordE != want {
		t.Fatalf("by the words Project(%.300s; %.100q) is %d, not %d", columns(s, exact), names, wordE, want)
	}
	told, e := resolve.Project(s, names)
	if e != want || columns(told, exact) != columns(words, fixed) {
		t.Fatalf("Project(%.300s; %.100q): %.300s, %d, want %.300s, %d", columns(s, exact), names, columns(told, exact), e, columns(words, fixed), want)
	}
	if e != api.OK && len(told.Columns) != 0 {
		t.Fatalf("%d columns beside the error %d", len(told.Columns), e)
	}
	if e == api.OK && schema.Check(told) != api.OK {
		t.Fatalf("Project(%.300s; %.100q): %.300s may not be: %d", columns(s, exact), names, columns(told, exact), schema.Check(told))
	}
	return told
}

// TestExamples: the chapter's examples of Check, Row and Project, as they stand there.
func TestExamples(t *testing.T) {
	a, b, x := plain("a", ofInt), plain("b", ofBool), text("x")
	sameCheck(t, of(a), of(plain("a", ofFloat), with("b", ofText, x)), api.OK)
	sameCheck(t, of(a), of(plain("c", ofInt)), api.ErrMissing)
	sameCheck(t, of(plain("a", ofText)), of(a), api.ErrKind)
	rowIs(t, of(a, b), of(plain("b", ofInt), with("c", ofText, x)), values(number(5), boolean(1)), values(number(1), x))
	if told := sameProject(t, of(a, b), []string{"b", "a"}, api.OK); !schema.Same(told, of(b, a)) {
		t.Fatalf("Project: %s", columns(told, exact))
	}
	sameProject(t, of(a, b), []string{"b", "b"}, api.ErrTwice)
	sameProject(t, of(a, b), []string{"c"}, api.ErrMissing)
	sameProject(t, of(a, b), nil, api.ErrEmpty)
}

// TestWholeExamples: the examples of the whole (DOC.md) that this layer holds up.
func TestWholeExamples(t *testing.T) {
	a := alone(ofInt)
	for _, n := range []int64{1, 2} {
		rowIs(t, a, of(plain("a", ofInt), with("b", ofText, text("x"))), values(number(n)), values(number(n), text("x")))
		rowIs(t, a, alone(ofFloat), values(number(n)), values(float(float64(n))))
		rowIs(t, a, alone(optOf(ofInt)), values(number(n)), values(opt(number(n))))
		sameRow(t, a, of(plain("c", ofInt)), values(number(n)), api.ErrMissing)
	}
	sameRow(t, a, alone(ofFloat), values(number(1<<53+1)), api.ErrLossy)
	rowIs(t, alone(ofFloat), alone(ofFloat), values(float(minusZero)), values(float(minusZero)))
	rowIs(t, alone(ofFloat), alone(ofFloat), values(nan(nanBits[9])), values(nan(theNaN)))
}

// wrongSchemas are schemas that may not be, each with its error.
func wrongSchemas() map[api.Errno]api.Schema {
	return map[api.Errno]api.Schema{
		api.ErrEmpty: of(), api.ErrMany: wide(17), api.ErrName: of(plain("A", ofInt)), api.ErrTwice: of(plain("a", ofInt), plain("a", ofInt)), api.ErrKind: alone(kind(8)), api.ErrDeep: alone(within(4, api.List, ofInt)),
		api.ErrType: of(with("a", ofInt, text("a"))), api.ErrUtf: of(with("a", ofText, text("\xff"))), api.ErrLong: of(with("a", ofBytes, rawBytes(strings.Repeat("a", 1018)))),
	}
}

// TestWrongSchemas: P9.2 to P9.4: the error of from, then that of to, ahead of all that columns, rows and names have.
func TestWrongSchemas(t *testing.T) {
	rights := []api.Schema{alone(ofInt), alone(ofText), of(plain("z", ofBool)), wide(16), of(with("b", ofInt, number(1)))}
	rows := []api.Row{values(), values(number(1)), values(text("\xff")), values(times(17, number(1))...)}
	for e, wrong := range wrongSchemas() {
		if got := schema.Check(wrong); got != e {
			t.Fatalf("schema.Check: %d, want %d", got, e)
		}
		for _, right := range rights {
			sameCheck(t, wrong, right, e)
			sameCheck(t, right, wrong, e)
			for _, r := range rows {
				sameRow(t, wrong, right, r, e)
				sameRow(t, right, wrong, r, e)
			}
		}
		for other, another := range wrongSchemas() {
			sameCheck(t, wrong, another, e)
			sameCheck(t, another, wrong, other)
			sameRow(t, wrong, another, values(number(1)), e)
		}
		for _, names := range [][]string{nil, {}, {"a"}, {"a", "a"}, {"x"}, {"c0", "c1"}, {""}} {
			sameProject(t, wrong, names, e)
		}
	}
}

// TestTypesOfColumns: P9.2: each type that may be, under each other one, in one column and in the last of some.
func TestTypesOfColumns(t *testing.T) {
	types := everyType()
	for _, from := range types {
		for _, to := range types {
			want := api.ErrKind
			if wordReadable(from, to) {
				want = api.OK
			}
			sameCheck(t, alone(from), alone(to), want)
			sameCheck(t, of(plain("x", ofInt), plain("a", from)), of(with("y", ofText, text("")), plain("x", ofFloat), plain("a", to)), want)
			if to.Kind <= api.Bytes {
				// A default is not for what is there.
				sameCheck(t, alone(from), of(with("a", to, valuesOf(to)[0])), want)
			}
		}
	}
}

// TestColumns: P9.2, P9.3: which column is which goes by the name alone; the first column of to that has an error tells it.
func TestColumns(t *testing.T) {
	x := text("x")
	from := of(plain("a", ofInt), plain("b", ofText), with("c", ofBool, boolean(1)), with("long_name_of_16b", ofBytes, rawBytes("d")))
	right := values(number(5), text("t"), boolean(0), rawBytes("\xff"))
	for _, one := range []struct {
		to   api.Schema
		want api.Row
		e    api.Errno
	}{
		{of(plain("b", ofText)), values(text("t")), api.OK},
		{of(plain("c", ofInt), plain("b", ofBytes), plain("a", ofFloat)), values(number(0), rawBytes("t"), float(5)), api.OK},
		{of(with("d", ofText, x), plain("a", ofInt)), values(x, number(5)), api.OK},
		{of(plain("a", ofInt), with("d", ofText, x)), values(number(5), x), api.OK},
		{of(with("d", ofText, x)), values(x), api.OK},
		{of(with("a", ofInt, number(9))), values(number(5)), api.OK},
		{of(with("aa", ofInt, number(9)), with("a_", ofInt, number(8))), values(number(9), number(8)), api.OK},
		{of(with("long_name_of_16a", ofInt, number(9)), with("long_name_of_16", ofInt, number(8))), values(number(9), number(8)), api.OK},
		{of(plain("long_name_of_16b", ofBytes)), values(rawBytes("\xff")), api.OK},
		{of(plain("aa", ofInt)), values(), api.ErrMissing},
		{of(plain("d", optOf(ofInt))), values(), api.ErrMissing},
		{of(plain("d", listOf(ofInt))), values(), api.ErrMissing},
		{of(plain("a", ofInt), plain("b", ofText), plain("d", ofText)), values(), api.ErrMissing},
		{of(plain("d", ofText), plain("a", ofText)), values(), api.ErrMissing},
		{of(plain("a", ofText), plain("d", ofText)), values(), api.ErrKind},
		{of(with("a", ofText, x), plain("d", ofText)), values(), api.ErrKind},
		{of(with("d", ofText, x), plain("b", ofInt), plain("e", ofText)), values(), api.ErrKind},
		{of(with("d", ofText, x), plain("e", ofInt), plain("b", ofInt)), values(), api.ErrMissing},
		{of(plain("long_name_of_16b", ofText)), values(), api.ErrUtf},
	} {
		check := one.e
		if check == api.ErrUtf {
			check = api.OK
		}
		sameCheck(t, from, one.to, check)
		told := sameRow(t, from, one.to, right, one.e)
		if exact(told.Values...) != exact(one.want.Values...) {
			t.Fatalf("Row(%s): %s, want %s", columns(one.to, exact), exact(told.Values...), exact(one.want.Values...))
		}
	}
	// A default of the writer's column counts for nothing.
	sameRow(t, of(with("a", ofInt, number(1))), of(plain("b", ofInt)), values(number(1)), api.ErrMissing)
	rowIs(t, of(with("a", ofInt, number(1))), of(with("a", ofInt, number(2))), values(number(3)), values(number(3)))
	// What is absent is no missing column.
	sameRow(t, alone(optOf(ofInt)), of(with("a", ofInt, number(2))), values(opt()), api.ErrAbsent)
	sameRow(t, alone(ofInt), of(with("a", ofFloat, float(2))), values(number(1<<53+1)), api.ErrLossy)
}

// TestDefaults: P9.3: each type's default, with the one NaN.
func TestDefaults(t *testing.T) {
	for _, one := range everyType() {
		for _, v := range valuesOf(one) {
			told := sameRow(t, of(plain("a", ofInt)), of(with("b", one, v), plain("a", ofInt)), values(number(1)), api.OK)
			if exact(told.Values...) != fixed(v, number(1)) {
				t.Fatalf("the default %s: %s", exact(v), exact(told.Values...))
			}
		}
	}
	for _, bits := range nanBits {
		rowIs(t, alone(ofInt), of(with("b", listOf(ofFloat), list(nan(bits), float(minusZero)))), values(number(1)), values(list(nan(theNaN), float(minusZero))))
	}
}

// TestHowManyValues: P9.3: as many Values as from has columns, and other numbers of them, ahead of all that the values have.
func TestHowManyValues(t *testing.T) {
	for count := 1; count <= 16; count++ {
		from := wide(count)
		for _, to := range []api.Schema{from, of(plain("c0", ofFloat)), of(with("d", ofText, text("x"))), of(plain("c0", ofInt), with("d", ofText, text("x")), with("e", ofInt, number(1)))} {
			for n := range 19 {
				want := api.ErrType
				if n == count {
					want = api.OK
				}
				sameRow(t, from, to, values(times(n, number(-1))...), want)
				if n == count {
					continue
				}
				for _, v := range []api.Value{{}, text("\xff"), text("a"), list(times(257, number(1))...), number(1<<53 + 1)} {
					sameRow(t, from, to, values(times(n, v)...), api.ErrType)
				}
			}
			sameRow(t, from, to, api.Row{Values: []api.Value{}}, api.ErrType)
		}
		// Check's error comes ahead of how many there are.
		sameRow(t, from, of(plain("c0", ofText)), values(), api.ErrKind)
		sameRow(t, from, of(plain("d", ofText)), values(), api.ErrMissing)
	}
}

// TestFirstColumn: P9.3: of several columns of from the first one's error, read or not; behind all of them those of to, in its order.
func TestFirstColumn(t *testing.T) {
	from := of(plain("a", ofInt), plain("b", ofBytes), plain("c", optOf(ofInt)), plain("d", ofFloat))
	tos := []api.Schema{from, of(plain("d", ofInt), plain("c", ofInt), plain("b", ofText), plain("a", ofFloat)), of(plain("c", ofInt)), of(with("x", ofInt, number(1))), of(plain("b", ofText), with("x", ofInt, number(1)), plain("a", ofFloat))}
	right := []api.Value{number(1), rawBytes("a"), opt(number(1)), float(1)}
	hard := []api.Value{number(1<<53 + 1), rawBytes("\xff"), opt(), float(0.5)}
	wrong := map[api.Errno]api.Value{api.ErrKind: {}, api.ErrUtf: text("\xff"), api.ErrLong: rawBytes(strings.Repeat("a", 1025)), api.ErrMany: list(times(257, text("\xff"))...), api.ErrDeep: list(list(list(list(list())))), api.ErrType: boolean(1)}
	for _, to := range tos {
		for e, v := range wrong {
			for other, w := range wrong {
				for at := range 4 {
					for later := at + 1; later < 4; later++ {
						for _, others := range [][]api.Value{right, hard} {
							l := slices.Clone(others)
							l[at] = v
							sameRow(t, from, to, values(l...), e)
							l[later] = w
							sameRow(t, from, to, values(l...), e)
							l[at] = others[at]
							sameRow(t, from, to, values(l...), other)
						}
					}
				}
			}
		}
	}
}

// TestFirstRead: P9.3: of several columns that can't be read the first one of to tells its error.
func TestFirstRead(t *testing.T) {
	from := of(plain("a", ofInt), plain("b", ofBytes), plain("c", optOf(ofInt)), plain("d", listOf(optOf(ofInt))))
	right := []api.Value{number(1), rawBytes("a"), opt(number(1)), list()}
	hard := []api.Value{number(1<<53 + 1), rawBytes("\xff"), opt(), list(opt(number(1)), opt(number(1<<53+1)), opt())}
	errors := []api.Errno{api.ErrLossy, api.ErrUtf, api.ErrAbsent, api.ErrLossy}
	types := []api.Type{ofFloat, ofText, ofInt, listOf(ofFloat)}
	for order := range permutations(4) {
		var to api.Schema
		for _, at := range order {
			to.Columns = append(to.Columns, plain(from.Columns[at].Name, types[at]))
		}
		for _, to := range []api.Schema{to, of(append([]api.Column{with("x", ofInt, number(1))}, to.Columns...)...)} {
			for which := range 16 {
				l, want := slices.Clone(right), api.OK
				for _, at := range slices.Backward(order) {
					if which>>at&1 == 1 {
						l[at], want = hard[at], errors[at]
					}
				}
				sameRow(t, from, to, values(l...), want)
			}
		}
	}
}

// permutations goes through all orders of the numbers below n.
func permutations(n int) func(yield func([]int) bool) {
	var rest func(ahead []int, yield func([]int) bool) bool
	rest = func(ahead []int, yield func([]int) bool) bool {
		if len(ahead) == n {
			return yield(ahead)
		}
		for i := range n {
			if !slices.Contains(ahead, i) && !rest(append(slices.Clone(ahead), i), yield) {
				return false
			}
		}
		return true
	}
	return func(yield func([]int) bool) { rest(nil, yield) }
}

// someColumns are columns with all that may stand in them.
func someColumns() []api.Column {
	return []api.Column{
		plain("a", ofInt), with("b", listOf(optOf(ofFloat)), list(opt(nan(nanBits[7])), opt(), opt(float(minusZero)))), with("c", ofText, text("\u00e9")), plain("d", within(3, api.List, ofBytes)),
		with("e", optOf(optOf(ofInt)), opt(opt())), with("f", ofFloat, nan(nanBits[1])),
	}
}

// TestProject: P9.4: all orders of all columns, and of fewer; wrong names in each place.
func TestProject(t *testing.T) {
	s := of(someColumns()...)
	for order := range permutations(len(s.Columns)) {
		var names []string
		var want api.Schema
		for _, at := range order {
			names = append(names, s.Columns[at].Name)
			want.Columns = append(want.Columns, s.Columns[at])
		}
		for n := 1; n <= len(names); n++ {
			told := sameProject(t, s, names[:n], api.OK)
			if !schema.Same(told, of(want.Columns[:n]...)) {
				t.Fatalf("Project(%q): %s", names[:n], columns(told, exact))
			}
			sameProject(t, s, append(slices.Clone(names[:n]), names[n-1]), api.ErrTwice)
			sameProject(t, s, append(slices.Clone(names[:n]), names[0], "x"), api.ErrTwice)
			sameProject(t, s, append(slices.Clone(names[:n]), "x", names[0]), api.ErrMissing)
			sameProject(t, s, append([]string{"x", "x"}, names[:n]...), api.ErrMissing)
		}
	}
	for _, no := range []string{"", "A", "aa", "a ", " a", "a\x00", "g", "\xff", "0", strings.Repeat("a", 17), strings.Repeat("a", 1<<16)} {
		sameProject(t, s, []string{no}, api.ErrMissing)
		sameProject(t, s, []string{no, no}, api.ErrMissing)
		sameProject(t, s, []string{"a", "b", no, "a"}, api.ErrMissing)
		sameProject(t, s, []string{"a", "a", no}, api.ErrTwice)
	}
	sameProject(t, s, []string{}, api.ErrEmpty)
}

// TestProjectMany: P9.4: sixteen columns, all of them in other orders, and more names than there are columns.
func TestProjectMany(t *testing.T) {
	s := wide(16)
	var names []string
	for _, c := range s.Columns {
		names = append(names, c.Name)
	}
	for n := range 16 {
		turned := slices.Concat(names[n:], names[:n])
		if told := sameProject(t, s, turned, api.OK); len(told.Columns) != 16 || told.Columns[0].Name != names[n] {
			t.Fatalf("Project(%q): %s", turned, columns(told, exact))
		}
		slices.Reverse(turned)
		sameProject(t, s, turned, api.OK)
		sameProject(t, s, append(turned, names[n]), api.ErrTwice)
		sameProject(t, s, append(turned, "x"), api.ErrMissing)
	}
	sameProject(t, s, slices.Repeat([]string{"c1"}, 10000), api.ErrTwice)
	sameProject(t, s, slices.Repeat([]string{"x"}, 10000), api.ErrMissing)
}

// TestManyColumns: P9.2, P9.3: sixteen columns on either side.
func TestManyColumns(t *testing.T) {
	from, to := wide(16), wide(16)
	slices.Reverse(to.Columns)
	var l, want []api.Value
	for n := range int64(16) {
		l = append(l, number(n))
		want = append([]api.Value{float(float64(n))}, want...)
		to.Columns[n].Type = ofFloat
	}
	rowIs(t, from, to, values(l...), values(want...))
	for i := range to.Columns {
		to.Columns[i] = with("d"+to.Columns[i].Name, ofInt, number(int64(i)))
	}
	rowIs(t, from, to, values(l...), values(l...))
	long := values(rawBytes(strings.Repeat("\xff", 1024)), rawBytes(strings.Repeat("a", 1024)))
	both := of(plain("a", ofBytes), plain("b", ofBytes))
	rowIs(t, both, both, long, long) // longer than MaxRow: this layer has rows, no bytes
}

// TestMixed: P9.1 to P9.5: mixed schemas with rows, right ones and wrong ones; among them each error often.
func TestMixed(t *testing.T) {
	seen := map[api.Errno]int{}
	for _, one := range manyReadings() {
		seen[asRow(t, one)]++
		sameCheck(t, one.from, one.to, wordCheck(one.from, one.to))
		for i, v := range one.r.Values {
			for _, c := range one.to.Columns {
				if i < len(one.from.Columns) && c.Name == one.from.Columns[i].Name {
					asValue(t, one.from.Columns[i].Type, c.Type, v)
				}
			}
		}
	}
	for e, least := range map[api.Errno]int{api.OK: 2000, api.ErrKind: 500, api.ErrType: 100, api.ErrUtf: 50, api.ErrLong: 10, api.ErrMany: 20, api.ErrDeep: 3, api.ErrTwice: 20, api.ErrLossy: 200, api.ErrMissing: 300, api.ErrAbsent: 100} {
		if seen[e] < least {
			t.Errorf("only %d with the error %d", seen[e], e)
		}
	}
}

// TestOwnSchema: P9.5: under its own schema a row is read as itself, under what Project tells as the values of these columns.
func TestOwnSchema(t *testing.T) {
	for k, one := range rightReadings() {
		rowIs(t, one.from, one.from, one.r, values(fix(one.r.Values)...))
		var names []string
		var want []api.Value
		for i := range one.from.Columns {
			at := (i*int(mixed(uint64(k))%13) + k) % len(one.from.Columns)
			if name := one.from.Columns[at].Name; !slices.Contains(names, name) {
				names = append(names, name)
				want = append(want, one.r.Values[at])
			}
		}
		rowIs(t, one.from, sameProject(t, one.from, names, api.OK), one.r, values(fix(want)...))
	}
}

// fix is values with the one NaN.
func fix(l []api.Value) []api.Value {
	var all []api.Value
	for _, v := range l {
		all = append(all, value.Fix(v))
	}
	return all
}

// TestOtherColumns: P9.7: a column that to has not may hold any value of its type.
func TestOtherColumns(t *testing.T) {
	asked := 0
	for _, one := range manyReadings() {
		told, e := resolve.Row(one.from, one.to, one.r)
		if _, wordE := wordRow(one.from, one.from, one.r); wordE != api.OK {
			continue
		}
		for i, c := range one.from.Columns {
			if _, found := schema.Find(one.to, c.Name); found {
				continue
			}
			for _, v := range valuesOf(c.Type) {
				l := slices.Clone(one.r.Values)
				l[i] = v
				again, otherE := resolve.Row(one.from, one.to, values(l...))
				if otherE != e || exact(again.Values...) != exact(told.Values...) {
					t.Fatalf("Row(%s; %s; %s): %s, %d, with another value in %q %s, %d", columns(one.from, exact), columns(one.to, exact), exact(one.r.Values...), exact(told.Values...), e, c.Name, exact(again.Values...), otherE)
				}
				asked++
			}
		}
	}
	if asked < 2000 {
		t.Fatalf("only %d other values", asked)
	}
}

// FuzzRow: schemas and rows that bytes tell, held against the words.
func FuzzRow(f *testing.F) {
	for k := range uint64(20) {
		f.Add(mixedBytes(k, 300))
	}
	f.Fuzz(func(t *testing.T, b []byte) {
		r := source{b}
		asRow(t, r.reading())
	})
}

// FuzzValue: types and values that bytes tell, held against the words.
func FuzzValue(f *testing.F) {
	for k := range uint64(20) {
		f.Add(mixedBytes(k, 80))
	}
	f.Fuzz(func(t *testing.T, b []byte) {
		r := source{b}
		from := r.kinds(1)
		v := r.value(from)
		asValue(t, from, r.near(from), v)
		asValue(t, from, r.kinds(1), v)
	})
}
