package row

import (
	"gabion/api"
	"gabion/leb"
	"gabion/real"
)

const floatBytes = 8

// A writer makes bytes of values that may be. Behind most bytes it leaves the items of lists out.
type writer struct {
	ways []func(w *writer, v api.Value)
	made []byte
	most int
}

// waysToWrite is how a value of each kind is written.
func waysToWrite() []func(w *writer, v api.Value) {
	return []func(w *writer, v api.Value){
		api.Bool:  writeBool,
		api.Int:   writeInt,
		api.Float: writeFloat,
		api.Text:  writeText,
		api.Bytes: writeText,
		api.Opt:   writeItems,
		api.List:  writeItems,
	}
}

func (w *writer) value(v api.Value) {
	w.ways[v.Kind](w, v)
}

func (w *writer) number(n uint64) {
	w.made = append(w.made, leb.Put(n)...)
}

func writeBool(w *writer, v api.Value) {
	w.made = append(w.made, byte(v.Int))
}

func writeInt(w *writer, v api.Value) {
	w.number(leb.Zig(v.Int))
}

func writeFloat(w *writer, v api.Value) {
	bits := real.Bits(v.Float)
	for range floatBytes {
		w.made = append(w.made, byte(bits))
		bits >>= 8
	}
}

func writeText(w *writer, v api.Value) {
	w.number(uint64(len(v.Text)))
	w.made = append(w.made, v.Text...)
}

// writeItems serves List and Opt, whose 00 or 01 is how many Items it has.
func writeItems(w *writer, v api.Value) {
	w.number(uint64(len(v.Items)))
	for _, item := range v.Items {
		// What is too long already is refused; lists of lists of lists would grow to gigabytes first.
		if len(w.made) > w.most {
			break
		}
		w.value(item)
	}
}
