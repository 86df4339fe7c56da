package text_test

import (
	"testing"

	"gabion/api"
	"gabion/text"
)

// faces are what there are texts of.
var faces = []string{"type", "schema", "value", "row"}

// doPrint and doParse are the calls of a face.
func doPrint(x any) (string, api.Errno) {
	switch x := x.(type) {
	case api.Type:
		return text.PrintType(x)
	case api.Schema:
		return text.PrintSchema(x)
	case api.Value:
		return text.PrintValue(x)
	}
	return text.PrintRow(x.(api.Row))
}

func doParse(what, s string) (any, api.Errno, int) {
	switch what {
	case "type":
		return anyOf(text.ParseType(s))
	case "schema":
		return anyOf(text.ParseSchema(s))
	case "value":
		return anyOf(text.ParseValue(s))
	}
	return anyOf(text.ParseRow(s))
}

func anyOf[T any](told T, e api.Errno, at int) (any, api.Errno, int) { return told, e, at }

// faceOf is which face tells x.
func faceOf(x any) string {
	switch x.(type) {
	case api.Type:
		return "type"
	case api.Schema:
		return "schema"
	case api.Value:
		return "value"
	}
	return "row"
}

// nothingOf is what a face tells beside an error.
func nothingOf(what string) any {
	return map[string]any{"type": api.Type{}, "schema": api.Schema{}, "value": api.Value{}, "row": api.Row{}}[what]
}

// samePrint asks what is printed of x, and, where there is a text, that it is read as x, fixed.
func samePrint(t *testing.T, x any, want string, wantE api.Errno) {
	t.Helper()
	s, e := doPrint(x)
	if s != want || e != wantE {
		t.Fatalf("Print(%.300s): %.300q, %d, want %.300q, %d", exact(x), s, e, want, wantE)
	}
	if e != api.OK {
		return
	}
	back, e, at := doParse(faceOf(x), s)
	if e != api.OK || at != 0 || exact(back) != fixed(x) {
		t.Fatalf("Parse of Print(%.300s): %.300s, %d, %d", exact(x), exact(back), e, at)
	}
}

// refusedPrint asks that nothing is printed of x.
func refusedPrint(t *testing.T, x any, want api.Errno) {
	t.Helper()
	samePrint(t, x, "", want)
}

// sameParse asks that a text is read as x, and that x is printed as that text.
func sameParse(t *testing.T, s string, x any) {
	t.Helper()
	told, e, at := doParse(faceOf(x), s)
	if e != api.OK || at != 0 || exact(told) != exact(x) {
		t.Fatalf("Parse of the %s %.300q: %.300s, %d, %d, want %.300s", faceOf(x), s, exact(told), e, at, exact(x))
	}
	samePrint(t, told, s, api.OK)
	asWords(t, faceOf(x), s)
}

// refused asks that a text is refused, why, and where.
func refused(t *testing.T, what, s string, want api.Errno, place int) {
	t.Helper()
	told, e, at := doParse(what, s)
	if e != want || at != place || exact(told) != exact(nothingOf(what)) {
		t.Fatalf("Parse of the %s %.300q: %.300s, %d, %d, want %d, %d", what, s, exact(told), e, at, want, place)
	}
	asWords(t, what, s)
}

// asWords asks that a text is read as the words say; whatever is taken is printed again.
func asWords(t *testing.T, what, s string) api.Errno {
	t.Helper()
	want, wantE, place := wordParse(what, s)
	told, e, at := doParse(what, s)
	if e != wantE || at != place || exact(told) != exact(want) {
		t.Fatalf("Parse of the %s %.300q: %.300s, %d, %d, want %.300s, %d, %d", what, s, exact(told), e, at, exact(want), wantE, place)
	}
	if e != api.OK {
		return e
	}
	if again, e := doPrint(told); e != api.OK || again != s {
		t.Fatalf("Print of Parse of the %s %.300q: %.300q, %d", what, s, again, e)
	}
	return e
}
