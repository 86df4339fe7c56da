package script_test

import (
	"strings"
	"testing"
	"unsafe"

	"gabion/api"
	"gabion/script"
)

// lent is a text of bytes that can be overwritten afterwards.
func lent(s string) ([]byte, string) {
	b := []byte(s + " ")
	return b, unsafe.String(&b[0], len(s))
}

// TestLinesStay: R4: a line is neither changed nor kept: what is overwritten in it afterwards changes nothing.
func TestLinesStay(t *testing.T) {
	for _, lines := range append(stands, []string{`open abc text = "wxyz", d bytes, e opt(text)`, `put "some text", 'some bytes', some("more")`, `put "", '', none`, "append", "change d bytes, x text = \"default\"", `put 'b', "c"`, "append"}) {
		p := newPair()
		for _, line := range append(append([]string{}, lines...), behind...) {
			b, s := lent(line)
			got, e := p.desk.Line(s)
			if string(b) != line+" " {
				t.Fatalf("%s was changed: %q", line, b)
			}
			answer := strings.Clone(got)
			for i := range b {
				b[i] = '%'
			}
			if want, wantE := p.words.line(line); got != answer || got != want || e != wantE {
				t.Fatalf("%s: %s, %d, want %s, %d", line, brief(got), e, brief(want), wantE)
			}
		}
	}
}

// TestScriptsStay: R4: a script is neither changed nor kept; what is told is no piece of it, nor of another answer.
func TestScriptsStay(t *testing.T) {
	for _, one := range joinable {
		b, s := lent(one)
		got, e, _ := script.Run(s)
		if string(b) != one+" " || e != api.OK {
			t.Fatalf("%q was changed: %q, %d", one, b, e)
		}
		answer := strings.Clone(got)
		clear(b)
		if got != answer {
			t.Fatalf("%q: %s, and then %s", one, brief(answer), brief(got))
		}
		mustRun(t, one, answer, api.OK, 0)
	}
}

// TestOneAnswer: R5: of the same lines the answers are the same, whatever other desks do beside it.
func TestOneAnswer(t *testing.T) {
	var all []string
	for _, lines := range stands {
		all = append(append(append(all, "new 1000"), lines...), behind...)
	}
	s := strings.Join(all, "\n")
	want, _, _ := asWords(t, s)
	done := make(chan bool)
	for range 8 {
		go func() {
			same := true
			for range 10 {
				got, e, at := script.Run(s)
				same = same && got == want && e == api.OK && at == 0
			}
			done <- same
		}()
	}
	for range 8 {
		if !<-done {
			t.Fatalf("another answer")
		}
	}
}
