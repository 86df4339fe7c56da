package text_test

import (
	"testing"

	"gabion/api"
)

// rightTexts are right texts of each face.
func rightTexts() map[string][]string {
	return map[string][]string{
		"type":   {"bool", "int", "float", "text", "bytes", "opt(int)", "list(opt(float))", "opt(list(opt(bytes)))"},
		"schema": {"a int", `a int, b text = "x", c opt(bytes) = none`, "x_1 list(int) = [-1, 20]", `q bytes = 'a\'\x00', r float = ~x3fe0000000000000`, "z opt(opt(bool)) = some(some(true)), y list(list(list(text)))"},
		"value":  {"true", "false", "none", "0", "-10", "-9223372036854775808", "9223372036854775807", "~0", "~-0", "~nan", "~-inf", "~x3fe0000000000000", "~9007199254740991", `""`, `"a\"\x0a\\'"`, `'\x00\xff"\''`, `"\xc3\xa9"`, "some(1)", "some(some(none))", "[]", "[1, 2]", `[[], [none, some("x")]]`, "[[[[], []]]]"},
		"row":    {"", "1", `1, "x", none`, `true, -2, ~-0, 'y', [1, 2], some(3)`, "[[[1]]], some(some(some(2)))"},
	}
}

// TestEachEnd: P21.2: right texts that end at each of their bytes.
func TestEachEnd(t *testing.T) {
	taken := 0
	for what, l := range rightTexts() {
		for _, s := range l {
			if asWords(t, what, s) != api.OK {
				t.Fatalf("the %s %q is not taken", what, s)
			}
			for n := range len(s) {
				if asWords(t, what, s[:n]) == api.OK {
					taken++
				}
				asWords(t, what, s[n:])
			}
		}
	}
	if taken < 20 {
		t.Fatalf("only %d beginnings are taken", taken)
	}
}

// TestEachByte: P21.2, P21.3: right texts with each byte overwritten by each other one, with each byte laid into each place, with each byte taken out.
func TestEachByte(t *testing.T) {
	taken := 0
	for what, l := range rightTexts() {
		for _, s := range l {
			for at := range len(s) + 1 {
				for b := range 256 {
					if asWords(t, what, s[:at]+string([]byte{byte(b)})+s[at:]) == api.OK {
						taken++
					}
					if at < len(s) {
						asWords(t, what, s[:at]+string([]byte{byte(b)})+s[at+1:])
					}
				}
				if at < len(s) {
					asWords(t, what, s[:at]+s[at+1:])
				}
			}
		}
	}
	if taken < 1000 {
		t.Fatalf("only %d texts are taken", taken)
	}
}

// TestEachFace: P21.2: right texts of one face at each other one, and two of them put together.
func TestEachFace(t *testing.T) {
	var all []string
	for _, l := range rightTexts() {
		all = append(all, l...)
	}
	for _, what := range faces {
		for _, a := range all {
			asWords(t, what, a)
			for _, b := range all {
				for _, between := range []string{"", " ", ",", ", ", " = ", "(", "["} {
					asWords(t, what, a+between+b)
				}
			}
		}
	}
}

// TestAllShort: P21.2, P21.3: all short texts of the bytes that mean something, and of some that mean nothing.
func TestAllShort(t *testing.T) {
	for _, one := range []struct {
		what, of string
		most     int
		taken    int
	}{
		{"value", `[], 1`, 7, 20}, {"value", `01-9`, 6, 500}, {"value", "~01-9x", 5, 50}, {"value", `"\x1f"`, 6, 20}, {"value", `'\x0"a`, 6, 100}, {"row", `1-, [`, 7, 30}, {"row", `"\,x e`, 5, 3}, {"schema", "a1_ i,=", 5, 0}, {"type", "opt(in) ", 5, 1},
	} {
		taken := 0
		ofAll([]byte(one.of), one.most, func(s string) {
			if asWords(t, one.what, s) == api.OK {
				taken++
			}
		})
		if taken < one.taken {
			t.Errorf("of the bytes %q only %d texts of a %s are taken", one.of, taken, one.what)
		}
	}
}

// TestAllPieces: P21.2, P21.3: all texts of a few words and signs one behind the other.
func TestAllPieces(t *testing.T) {
	for _, one := range []struct {
		what  string
		of    []string
		most  int
		taken int
	}{
		{"type", []string{"int", "opt", "list", "(", ")", " "}, 6, 3}, {"value", []string{"some", "none", "(", ")", "1", ", ", "[", "]"}, 6, 35}, {"row", []string{`"`, `\`, "x", "0a", "a", ", ", "'"}, 6, 100}, {"schema", []string{"a", "b", " ", "int", " = ", "5", ", "}, 7, 10},
	} {
		index := make([]byte, len(one.of))
		for i := range index {
			index[i] = byte(i)
		}
		taken := 0
		ofAll(index, one.most, func(which string) {
			s := ""
			for _, i := range []byte(which) {
				s += one.of[i]
			}
			if asWords(t, one.what, s) == api.OK {
				taken++
			}
		})
		if taken < one.taken {
			t.Errorf("of the pieces %q only %d texts of a %s are taken", one.of, taken, one.what)
		}
	}
}

// ofAll hands on all texts of up to so many of these bytes.
func ofAll(of []byte, most int, take func(s string)) {
	s := make([]byte, 0, most)
	var more func()
	more = func() {
		take(string(s))
		if len(s) == most {
			return
		}
		for _, b := range of {
			s = append(s, b)
			more()
			s = s[:len(s)-1]
		}
	}
	more()
}
