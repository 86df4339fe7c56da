package file_test

import (
	"bytes"
	"math"
	"slices"
	"strconv"
	"strings"
	"testing"

	"gabion/api"
	"gabion/batch"
	"gabion/file"
	"gabion/schema"
)

// source is bytes that are taken one by one; behind their end come zeros.
type source struct{ left []byte }

func (r *source) next() int {
	if len(r.left) == 0 {
		return 0
	}
	b := r.left[0]
	r.left = r.left[1:]
	return int(b)
}

// kinds is a type at a depth, one that may be.
func (r *source) kinds(depth int) api.Type {
	k := 1 + r.next()%7
	switch {
	case k < 6:
		return kind(k)
	case depth == 4:
		return ofInt
	}
	return kind(k, r.kinds(depth+1))
}

var someInts = []int64{0, 1, -1, 1 << 53, 1<<53 + 1, math.MaxInt64, math.MinInt64, 12345}

var someFloats = []uint64{0, 1 << 63, math.Float64bits(1), math.Float64bits(0.5), 0x7ff0000000000000, 0xfff0000000000000, theNaN, 0xfff8000000000001}

var someTexts = []string{"", "a", "\x00", "\u00e9", strings.Repeat("xy", 20), strings.Repeat("\x00", 300), "\xff", "a\xc3"}

// value is a value of the type.
func (r *source) value(t api.Type) api.Value {
	v := api.Value{Kind: t.Kind}
	wild := r.next()
	switch t.Kind {
	case api.Bool:
		v.Int = int64(wild % 2)
	case api.Int:
		v.Int = someInts[wild%len(someInts)]
	case api.Float:
		v = bits(someFloats[wild%len(someFloats)])
	case api.Text:
		v.Text = someTexts[wild%6]
	case api.Bytes:
		v.Text = someTexts[wild%len(someTexts)]
	case api.Opt:
		for range wild % 3 % 2 {
			v.Items = append(v.Items, r.value(t.Of[0]))
		}
	case api.List:
		for range wild % 4 {
			v.Items = append(v.Items, r.value(t.Of[0]))
		}
	}
	return v
}

// rows are rows of a schema, most often such as may be a block.
func (r *source) rows(s api.Schema) []api.Row {
	var l []api.Row
	for range []int{1, 1, 1, 2, 3, 5, 64, 65}[r.next()%8] {
		one := api.Row{}
		for _, c := range s.Columns {
			one.Values = append(one.Values, r.value(c.Type))
		}
		l = append(l, one)
	}
	for r.next() > 10 && len(l) > 1 {
		if _, e := batch.Size(s, l); e == api.OK {
			break
		}
		l = l[:len(l)/2]
	}
	switch wild := r.next(); {
	case wild == 1:
		return nil
	case wild == 2:
		return append(l, api.Row{})
	case wild == 3 && len(l[0].Values) > 0:
		l[0].Values = slices.Clone(l[0].Values)
		l[0].Values[0] = r.value(r.kinds(1))
	}
	return l
}

// schema is a schema, now and then one that may not be; most often one of a few.
func (r *source) schema() api.Schema {
	wild := r.next()
	switch {
	case wild < 5:
		return refusedSchemas()[r.next()%len(refusedSchemas())].s
	case wild < 200:
		return []api.Schema{ints, two, floats, nested, texts, wide(16)}[wild%6]
	}
	var s api.Schema
	for i := range 1 + r.next()%3 {
		c := plain("c"+strconv.Itoa(i), r.kinds(1))
		if r.next()%2 == 0 {
			c.Has, c.Default = true, r.value(c.Type)
		}
		s.Columns = append(s.Columns, c)
	}
	if schema.Check(s) != api.OK {
		return ints
	}
	return s
}

// counts are how often something happened in scripts.
type counts struct{ appended, noSpace, power, opened, closed, refused, cloned, damaged, sound int }

func (n *counts) count(e api.Errno) {
	switch e {
	case api.OK:
	case api.ErrNoSpace:
		n.noSpace++
	case api.ErrPower:
		n.power++
	default:
		n.refused++
	}
}

// left is a file that was cloned, and how it stood then.
type left struct {
	f    *file.File
	b    []byte
	open bool
}

// write makes one call that may write.
func (r *source) write(p *twins, n *counts) {
	p.t.Helper()
	switch wild := r.next(); {
	case !p.open && wild < 200 || wild < 6:
		e := p.openUnder(r.schema())
		n.count(e)
		if e == api.OK {
			n.opened++
		}
	case wild < 160:
		e := p.append(r.rows(p.s))
		n.count(e)
		if e == api.OK {
			n.appended++
		}
	case wild < 190:
		n.count(p.change(r.schema()))
	case wild < 220:
		n.count(p.sync())
	default:
		is, e := p.close()
		n.count(e)
		if is {
			n.closed++
		}
	}
}

// fault makes one call that does harm, or undoes it.
func (r *source) fault(p *twins, n *counts, harm bool) {
	p.t.Helper()
	switch wild := r.next(); {
	case wild < 130:
		n.count(p.fail(r.next()*r.next()/64-1, r.next()-1))
	case wild < 170 || !harm:
		n.count(p.start())
	case wild < 230:
		at := (r.next()<<8 + r.next()) % (len(p.f.Bytes()) + 2)
		if e := p.damage(at-1, byte(r.next())); e == api.OK {
			n.damaged++
		}
	default:
		n.count(p.tail(mixedBytes(uint64(r.next()), r.next(), uint64(r.next()%5))))
	}
}

// read makes one call that reads.
func (r *source) read(p *twins) {
	p.t.Helper()
	switch r.next() % 5 {
	case 0:
		p.rows()
	case 1:
		p.as(r.schema())
	case 2:
		s := r.schema()
		names := []string{"a", "b", "f", "c0", "none"}
		p.as(s, names[r.next()%5], names[r.next()%5])
	case 3:
		p.from(int64(r.next()) - 3)
	case 4:
		p.salvage()
	}
}

// script makes calls as long as there are bytes. Behind them the file is opened again, and read, unless harm was done to it.
func (r *source) script(t *testing.T, n *counts) {
	t.Helper()
	quota := []int{plenty, plenty, 100, 400, 1000, 3000}[r.next()%6]
	harm := r.next()%3 == 0
	p := twinsOf(t, quota)
	var behind []left
	for len(r.left) > 0 {
		switch wild := r.next(); {
		case wild < 150:
			r.write(p, n)
		case wild < 190:
			r.fault(p, n, harm)
		case wild < 245:
			r.read(p)
		default:
			behind = append(behind, left{p.f, p.f.Bytes(), p.open})
			p.clone()
			n.cloned++
		}
		if r.next() > 100 {
			p.start()
		}
	}
	for _, one := range behind {
		if !bytes.Equal(one.f.Bytes(), one.b) || one.f.Opened() != one.open {
			t.Fatalf("a file sees what is done to its clone")
		}
	}
	p.start()
	p.fail(math.MaxInt, 0)
	if p.odd {
		p.reads()
		return
	}
	if !p.open {
		p.mustOpen(ints, api.OK)
	}
	p.close()
	p.mustRead()
	n.sound++
}

// TestMixed: P20.1 to P20.4, P0.1, P0.2, P0.5: mixed scripts of calls, failures and damages.
func TestMixed(t *testing.T) {
	var n counts
	for k := range uint64(400) {
		(&source{mixedBytes(k, 100+2*int(k), 5)}).script(t, &n)
	}
	if n.appended < 1500 || n.noSpace < 200 || n.power < 150 || n.opened < 1000 || n.closed < 200 || n.refused < 500 || n.cloned < 200 || n.damaged < 50 || n.sound < 200 {
		t.Fatalf("too few: %+v", n)
	}
}

// FuzzFile: P20.1 to P20.4, P0.1, P0.2, P0.5: scripts that the fuzzer makes up.
func FuzzFile(f *testing.F) {
	for k := range uint64(30) {
		f.Add(mixedBytes(k, 50+20*int(k), 4))
	}
	f.Fuzz(func(t *testing.T, b []byte) {
		(&source{b}).script(t, &counts{})
	})
}

// FuzzDamage: P0.3, P0.4: files that were written, damaged, cut, with noise put on by the fuzzer; and the noise alone.
func FuzzDamage(f *testing.F) {
	for k := range uint64(20) {
		f.Add(uint8(k), mixedBytes(k, 4*int(k), 0), uint32(mixed(k)), mixedBytes(k+50, 9*int(k), 4))
	}
	f.Fuzz(func(t *testing.T, which uint8, changes []byte, cut uint32, noise []byte) {
		k := knownOf(t, [][]step{shortScript(), again()}[which%2]...)
		b := bytes.Clone(k.b)
		for r := (&source{changes}); len(r.left) > 0; {
			b[(r.next()<<8+r.next())%len(b)] = byte(r.next())
		}
		if which >= 128 {
			b = b[:int(cut)%(len(b)+1)]
		}
		b = append(b, noise...)
		k.mustSave(t, fileOf(b))
		mustHold(t, b)
		survives(t, b)
		survives(t, noise)
	})
}
