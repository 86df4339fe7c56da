package script_test

import (
	"strings"
	"testing"

	"gabion/api"
)

// TestExamples: P23.1, P23.2: the chapter's examples, line by line and as a script.
func TestExamples(t *testing.T) {
	by := []string{
		`append`, `error 6`, `open a int, b text = "x"`, `ok`, `open a int`, `error 6`,
		`put 5, "y"`, `ok`, `put -6, ""`, `ok`, `append`, `ok`, `append`, `error 4`,
		`put 7`, `ok`, `append`, `error 80`, `drop`, `ok`, `put 01`, `error 5 at 0`,
		`rows`, "ok 2 0\n 0 0 5, \"y\"\n 1 0 -6, \"\"",
		`as a float`, "ok 2 0\n 0 0 ~5\n 1 0 ~-6",
		`from 1`, "ok 1 0\n 1 0 -6, \"\"", `from 2`, `error 7`, `close`, `ok true`, `close`, `error 6`,
	}
	newPair().talk(t, by...).refuse(t, api.ErrLine, "fly", "rows now", "new 01")

	var lines, answers strings.Builder
	for i := 0; i < len(by); i += 2 {
		lines.WriteString(by[i] + "\n")
		answers.WriteString(by[i+1] + "\n")
	}
	mustRun(t, lines.String(), answers.String(), api.OK, 0)
	mustRun(t, lines.String()+"fly", "", api.ErrScript, len(by)/2+1)
}

// TestWhole: P23.1: DOC.md's examples of the whole, as far as lines tell them.
func TestWhole(t *testing.T) {
	p := newPair().talk(t, "open a int", "ok", "put 1", "ok", "put 2", "ok", "append", "ok", "close", "ok true")
	p.talk(t, `open a int, b text = "x"`, "ok", `put 9007199254740993, "y"`, "ok", "append", "ok")
	p.talk(t, `as a int, b text = "x"`, "ok 3 0\n 0 0 1, \"x\"\n 1 0 2, \"x\"\n 2 1 9007199254740993, \"y\"")
	p.talk(t, "as a float", "ok 3 0\n 0 0 ~1\n 1 0 ~2\n 2 1 error 10", "as a opt(int)", "ok 3 0\n 0 0 some(1)\n 1 0 some(2)\n 2 1 some(9007199254740993)")
	p.talk(t, "as c int", "ok 3 0\n 0 0 error 90\n 1 0 error 90\n 2 1 error 90")

	// Power fails within the ninth byte of a data frame.
	p = newPair().do(t, "open a int", "put 1", "append", "sync")
	before, _ := p.line(t, "bytes")
	p.talk(t, "fail 8 999999999", "ok", "put 2", "ok", "append", "error 51", "start", "ok", "rows", "ok 1 142\n 0 0 1", "open a int", "ok", "bytes", before)
	p.talk(t, "append", "ok", "rows", "ok 2 0\n 0 0 1\n 1 0 2")

	// A value -0 is read as -0, and there is one NaN.
	p = newPair().do(t, "open a float", "put ~-0", "put ~nan", "append")
	p.talk(t, "rows", "ok 2 0\n 0 0 ~-0\n 1 0 ~nan")
}
