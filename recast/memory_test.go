package recast_test

import (
	"bytes"
	"runtime"
	"slices"
	"testing"
	"time"

	"gabion/api"
	"gabion/recast"
)

// withRoom is a list with room behind it, in which something stands that is not the list's.
func withRoom[T any](l []T, room ...T) []T {
	all := slices.Concat(l, room)
	return all[:len(l)]
}

func roomyValue(v api.Value) api.Value {
	var items []api.Value
	for _, item := range v.Items {
		items = append(items, roomyValue(item))
	}
	v.Items = withRoom(items, bits(0xfff8000000000bad), text("room"))
	return v
}

func roomyType(t api.Type) api.Type {
	var inner []api.Type
	for _, one := range t.Of {
		inner = append(inner, roomyType(one))
	}
	t.Of = withRoom(inner, kind(77), kind(78))
	return t
}

// roomySchema has memory of its own, and room behind each of its lists.
func roomySchema(s api.Schema) api.Schema {
	var columns []api.Column
	for _, c := range s.Columns {
		columns = append(columns, api.Column{Name: c.Name, Type: roomyType(c.Type), Has: c.Has, Default: roomyValue(c.Default)})
	}
	return api.Schema{Columns: withRoom(columns, plain("room", kind(79)), plain("z", ofInt))}
}

// openedValue, openedType, openedSchema tell all that stands in lists, with the room behind them; NaNs to the bit.
func openedValue(b []byte, v api.Value) []byte {
	items := v.Items
	v.Items = nil
	b = showValue(append(b, '{'), v)
	for _, item := range items[:cap(items)] {
		b = openedValue(b, item)
	}
	return append(b, '}')
}

func openedType(b []byte, t api.Type) []byte {
	b = showNumbers(append(b, '<'), int64(t.Kind))
	for _, inner := range t.Of[:cap(t.Of)] {
		b = openedType(b, inner)
	}
	return append(b, '>')
}

func openedSchema(s api.Schema) string {
	var b []byte
	for _, c := range s.Columns[:cap(s.Columns)] {
		b = openedType(append(append(b, ' '), c.Name...), c.Type)
		b = openedValue(b, c.Default)
	}
	return string(b)
}

// spoilSchema writes into all lists of a schema, those deep inside first, and into the room behind them.
func spoilSchema(s api.Schema) {
	for _, c := range s.Columns {
		spoilTypes(c.Type.Of)
		spoilValues(c.Default.Items)
	}
	clear(s.Columns[:cap(s.Columns)])
}

func spoilValues(l []api.Value) {
	for _, v := range l {
		spoilValues(v.Items)
	}
	clear(l[:cap(l)])
}

func spoilTypes(l []api.Type) {
	for _, t := range l {
		spoilTypes(t.Of)
	}
	clear(l[:cap(l)])
}

// TestSchemaStays: R4, R6: a schema with lists within lists, whose defaults have other NaNs, stays, and the room behind each of its lists; what is written has the one NaN, and -0.
func TestSchemaStays(t *testing.T) {
	under := func(nan uint64) api.Schema {
		return of(plain("a", optOf(ofFloat)), with("d", listOf(optOf(listOf(ofFloat))), list(opt(list(bits(nan), bits(1<<63))), opt(), opt(list()))))
	}
	from, to := written(step{ints, numbers(1, 2, 3)}, step{real, reals(0.5)}), newDev(maxQuota)
	mustRecast(t, from, to, under(0xfff8000000000001), 3, 4, 0, api.OK)
	one := list(opt(list(bits(theNaN), bits(1<<63))), opt(), opt(list()))
	var want []api.Row
	for _, x := range []float64{1, 2, 3, 0.5} {
		want = append(want, values(opt(float(x)), one))
	}
	mustHold(t, to, "S 3 1 X", want)
	again := newDev(maxQuota)
	mustRecast(t, from, again, under(theNaN), 3, 4, 0, api.OK)
	if !bytes.Equal(again.All(), to.All()) {
		t.Fatalf("another NaN in a default: another file")
	}
}

// TestOneAnswer: R5: of the same arguments the answer and the bytes are the same, however often, and whatever else runs beside it.
func TestOneAnswer(t *testing.T) {
	from := written(blocks()...)
	want := newDev(3000)
	counts, e := doRecast(t, from.Clone(), want, two, 5)
	done := make(chan string)
	for range 8 {
		from := from.Clone() // another object: nobody else reads it
		go func() {
			for range 20 {
				to := newDev(3000)
				if c, x := recast.Recast(from, to, two, 5); c != counts || x != e || !bytes.Equal(to.All(), want.All()) {
					done <- "another answer"
					return
				}
			}
			done <- ""
		}()
	}
	for range 8 {
		if s := <-done; s != "" {
			t.Fatal(s)
		}
	}
}

// settled is how many goroutines there are, when those that are just ending have ended; at most so many, if that comes to be.
func settled(most int) int {
	for range 1000 {
		if runtime.NumGoroutine() <= most {
			break
		}
		time.Sleep(time.Millisecond)
	}
	return runtime.NumGoroutine()
}

// TestGoroutinesEnd: R1: who reads has ended when the call answers, however that ends.
func TestGoroutinesEnd(t *testing.T) {
	from := written(script()...)
	torn := devOf(maxQuota, from.All()[:from.Len()-1])
	before := runtime.NumGoroutine()
	ends := map[api.Errno]int{}
	for range 20 {
		for _, quota := range []int{0, 20, 100, 500, maxQuota} {
			_, e := recast.Recast(from, newDev(quota), ints, 2)
			ends[e]++
		}
		_, e := recast.Recast(torn, newDev(maxQuota), ints, 2)
		ends[e]++
		_, e = recast.Recast(from, takeDown(newDev(10)), ints, 2)
		ends[e]++
		_, e = recast.Recast(from, newDev(10), ints, 0)
		ends[e]++
		to := newDev(maxQuota)
		to.Fail(200, 0)
		_, e = recast.Recast(from, to, ints, 2)
		ends[e]++
	}
	if now := settled(before); now > before {
		t.Fatalf("%d goroutines, %d ahead of it", now, before)
	}
	if ends[api.OK] != 20 || ends[api.ErrNoSpace] != 80 || ends[api.ErrTorn] != 20 || ends[api.ErrDown] != 20 || ends[api.ErrArg] != 20 || ends[api.ErrPower] != 20 {
		t.Fatalf("it ended otherwise: %v", ends)
	}
}
