package split_test

import (
	"testing"
)

// state is where a Splitter may stand: what came to it, in pieces.
type state struct {
	name string
	came [][]byte
}

// states are those that the chapter names: at the beginning, ahead of the first fence, behind a fence, within a run, at the limit, within a run that is too long, behind one.
func states() []state {
	z := row(0, 1)
	return []state{
		{"at the beginning", nil},
		{"behind nothing", [][]byte{nil, {}}},
		{"ahead of the first fence", [][]byte{{5}}},
		{"far ahead of the first fence", [][]byte{row(5, 3000)}},
		{"at the first fence", [][]byte{z}},
		{"behind two fences", [][]byte{{5, 0, 0}}},
		{"behind a run", [][]byte{{0, 5, 6, 0}}},
		{"within the first run", [][]byte{{0, 5}}},
		{"within a run of several pieces", [][]byte{{9, 0, 5}, {6}, {7, 8}}},
		{"within a later run", [][]byte{{9, 0, 5, 0, 0, 6}, {7, 0, 1, 2, 3, 4, 5, 6, 7}}},
		{"one ahead of the limit", [][]byte{z, mixedBytes(1, maxFrame-1, 0)}},
		{"at the limit", [][]byte{{0, 5, 0}, mixedBytes(2, maxFrame, 0)}},
		{"at the limit byte by byte", [][]byte{{0}, mixedBytes(3, 1000, 0), mixedBytes(4, 1000, 0), mixedBytes(5, 199, 0), {1}}},
		{"one beyond the limit", [][]byte{{3, 0}, row(5, maxFrame), {5}}},
		{"far beyond the limit", [][]byte{z, row(5, 9000)}},
		{"behind one that is too long", [][]byte{z, row(5, 9000), z}},
		{"within a run behind one that is too long", [][]byte{z, row(5, 2201), {0, 8, 7, 6}}},
		{"beyond the limit once more", [][]byte{z, row(5, 2201), z, row(6, 2300)}},
	}
}

func (x state) made(t *testing.T) *fed {
	t.Helper()
	f := fresh()
	for _, b := range x.came {
		f.goOn(t, b)
	}
	return f
}

// ways are bytes that unlike streams go on with.
func ways() [][]byte {
	z := row(0, 1)
	return [][]byte{
		nil, {}, z, {0, 0}, {1}, {2, 2}, {3, 0}, {0, 4}, {0, 4, 0}, {5, 5, 5, 0, 6, 0, 0, 7, 0, 8},
		row(9, maxFrame-1), row(10, maxFrame), row(11, maxFrame+1), join(z, row(12, maxFrame), z), join(z, row(13, maxFrame+1), z), join(row(14, maxFrame), z, row(15, 2), z, row(16, 3)),
	}
}

// TestClone: P13.2, R5: from each state a Splitter and its clone go on with unlike bytes, each first and in turn, and neither changes the other.
func TestClone(t *testing.T) {
	for _, x := range states() {
		for _, first := range ways() {
			for _, second := range ways() {
				one := x.made(t)
				two := one.clone()
				one.stands(t)
				two.stands(t)
				one.goOn(t, first)
				two.stands(t)
				two.goOn(t, second)
				one.stands(t)
				one.goOn(t, second)
				two.stands(t)
				two.goOn(t, []byte{21, 0})
				one.goOn(t, []byte{22, 22, 0})
				two.goOn(t, []byte{23, 0})
				one.stands(t)
			}
		}
	}
}

// TestCloneAlone: P13.2, R5: a clone goes on alone, and one that stays lets its clone go on: each then tells what was so when it was made.
func TestCloneAlone(t *testing.T) {
	for _, x := range states() {
		for _, b := range ways() {
			one := x.made(t)
			two := one.clone()
			two.goOn(t, b)
			two.goOn(t, []byte{31, 0, 32, 0})
			one.stands(t)
			one.goOn(t, []byte{33, 34, 0})
			one.goOn(t, b)
			two.stands(t)
			three := x.made(t).clone()
			for range 3 {
				three = three.clone()
				three.stands(t)
				three.goOn(t, b)
			}
			three.goOn(t, []byte{0, 1, 0})
		}
	}
}

// TestCloneByteByByte: P13.2, R5: a clone is taken behind each byte of streams about the limit and goes on with others, while the Splitter goes on with its own.
func TestCloneByteByByte(t *testing.T) {
	w := streamOf([]byte{4, 0, 5, 6, 0, 0}, mixedBytes(9, maxFrame+3, 0), []byte{0, 7, 0, 8})
	one := fresh()
	for i, c := range w.all {
		two := one.clone()
		one.goOn(t, []byte{c})
		two.goOn(t, []byte{c ^ 0x55, byte(i) | 1, 0})
		one.stands(t)
	}
}

// TestManyClones: P13.2, R5: mixed calls on Splitters and clones of them, and of these.
func TestManyClones(t *testing.T) {
	for seed := range uint64(30) {
		all := []*fed{fresh()}
		for k := range uint64(120) {
			m := mixed(seed<<32 + k)
			f := all[m>>8%uint64(len(all))]
			switch m % 4 {
			case 0:
				if len(all) < 12 {
					all = append(all, f.clone())
				}
			case 1:
				f.goOn(t, row(byte(1+m>>32%255), int(m>>16%3000)))
			default:
				f.goOn(t, mixedBytes(seed<<16+k, int(m>>16%20), 4))
			}
			for _, other := range all {
				other.stands(t)
			}
		}
	}
}
