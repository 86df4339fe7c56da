package salvage

import (
	"cmp"
	"slices"

	"gabion/api"
	"gabion/schema"
)

// undoubted are the schemas of a list by their numbers, but those of a number that stands there with schemas that are not the same. These are deleted behind the list's end alone: deleted at once, a number would be taken anew where it stands for the third time.
func undoubted(l []api.Numbered) map[int64]api.Schema {
	schemas := make(map[int64]api.Schema)
	var doubtful []int64
	for _, one := range l {
		first, known := schemas[one.Number]
		if !known {
			schemas[one.Number] = one.Schema
		} else if !schema.Same(first, one.Schema) {
			doubtful = append(doubtful, one.Number)
		}
	}
	for _, number := range doubtful {
		delete(schemas, number)
	}
	return schemas
}

// rising are schemas in the order of their numbers, as a map has none of its own.
func rising(schemas map[int64]api.Schema) []api.Numbered {
	var l []api.Numbered
	for number, s := range schemas {
		l = append(l, api.Numbered{Number: number, Schema: s})
	}
	slices.SortFunc(l, func(a, b api.Numbered) int { return cmp.Compare(a.Number, b.Number) })
	return l
}

// copied is a schema in memory of its own, its floats fixed, or schema.Check's error of it, which Encode has first.
func copied(s api.Schema) (api.Schema, api.Errno) {
	b, e := schema.Encode(s)
	if e != api.OK {
		return api.Schema{}, e
	}
	return schema.Decode(b)
}

// small tells whether a number may be a schema's.
func small(number int64) bool { return number >= 0 && number < api.MaxNumber }
