package resolve

import (
	"gabion/api"
	"gabion/real"
	"gabion/schema"
	"gabion/value"
)

// kinds are two kinds held together: the one that is there, and the one that it is to be read as.
type kinds [2]int

// Value is a value of the one type, read as one of the other.
func Value(from, to api.Type, v api.Value) (api.Value, api.Errno) {
	if e := schema.CheckType(from); e != api.OK {
		return api.Value{}, e
	}
	if e := schema.CheckType(to); e != api.OK {
		return api.Value{}, e
	}
	if e := checkValue(from, v); e != api.OK {
		return api.Value{}, e
	}
	if !canRead(from, to) {
		return api.Value{}, api.ErrKind
	}
	return read(from, to, v)
}

// checkValue is why a value is none of a type that may be.
func checkValue(t api.Type, v api.Value) api.Errno {
	if e := value.Check(v); e != api.OK {
		return e
	}
	if !schema.Is(v, t) {
		return api.ErrType
	}
	return api.OK
}

// canRead tells whether a type can be read as another one; both may be.
func canRead(from, to api.Type) bool {
	switch held := (kinds{from.Kind, to.Kind}); {
	case isBothOf(held):
		return canRead(from.Of[0], to.Of[0])
	case to.Kind == api.Opt:
		return canRead(from, to.Of[0])
	case from.Kind == api.Opt:
		return canRead(from.Of[0], to)
	default:
		return canReadPlain(held)
	}
}

// isBothOf tells of which types what they are of is read, item by item.
func isBothOf(held kinds) bool {
	return held == kinds{api.Opt, api.Opt} || held == kinds{api.List, api.List}
}

// canReadPlain is asked of kinds none of which is Opt, nor both List.
func canReadPlain(held kinds) bool {
	switch held {
	case kinds{api.Int, api.Float}, kinds{api.Float, api.Int}, kinds{api.Bool, api.Int}, kinds{api.Text, api.Bytes}, kinds{api.Bytes, api.Text}:
		return true
	}
	return held[0] == held[1]
}

// read is asked of a value of a type that can be read as the other one.
func read(from, to api.Type, v api.Value) (api.Value, api.Errno) {
	switch held := (kinds{from.Kind, to.Kind}); {
	case isBothOf(held):
		return readItems(from.Of[0], to, v.Items)
	case to.Kind == api.Opt:
		return readItems(from, to, []api.Value{v})
	case from.Kind == api.Opt && len(v.Items) == 0:
		return api.Value{}, api.ErrAbsent
	case from.Kind == api.Opt:
		return read(from.Of[0], to, v.Items[0])
	default:
		return readPlain(held, v)
	}
}

// readItems is an opt or a list of values that are of a type each.
func readItems(from, to api.Type, items []api.Value) (api.Value, api.Errno) {
	var told []api.Value
	for _, item := range items {
		v, e := read(from, to.Of[0], item)
		if e != api.OK {
			return api.Value{}, e
		}
		told = append(told, v)
	}
	return api.Value{Kind: to.Kind, Items: told}, api.OK
}

func readPlain(held kinds, v api.Value) (api.Value, api.Errno) {
	told, e := api.Value{Kind: held[1]}, api.OK
	switch held {
	case kinds{api.Int, api.Float}:
		told.Float, e = real.FromInt(v.Int)
	case kinds{api.Float, api.Int}:
		told.Int, e = real.ToInt(v.Float)
	case kinds{api.Bytes, api.Text}:
		told.Text, e = asText(v.Text)
	default:
		told.Int, told.Float, told.Text = v.Int, real.Fix(v.Float), v.Text
	}
	if e != api.OK {
		return api.Value{}, e
	}
	return told, api.OK
}

func asText(s string) (string, api.Errno) {
	if !value.Utf(s) {
		return "", api.ErrUtf
	}
	return s, api.OK
}
