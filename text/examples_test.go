package text_test

import (
	"testing"

	"gabion/api"
)

// TestExamples: P21.1, P21.2, P21.3: the chapter's table.
func TestExamples(t *testing.T) {
	sameParse(t, `list(opt(float))`, listOf(optOf(ofFloat)))
	sameParse(t, `a int, b text = "x", c opt(bytes) = none`, of(plain("a", ofInt), with("b", ofText, words("x")), with("c", optOf(ofBytes), opt())))
	sameParse(t, `-5`, number(-5))
	sameParse(t, `~-0`, float(minusZero))
	sameParse(t, `~nan`, nan(theNaN))
	sameParse(t, `~x3fe0000000000000`, float(0.5))
	sameParse(t, `true`, boolean(1))
	sameParse(t, `"a\"\x0a"`, words("a\"\n"))
	sameParse(t, `'\x00\xff'`, rawBytes("\x00\xff"))
	sameParse(t, `some(1)`, opt(number(1)))
	sameParse(t, `[]`, list())
	sameParse(t, `[1, 2]`, list(number(1), number(2)))
	sameParse(t, `1, "x", none`, values(number(1), words("x"), opt()))
}

// TestExamplesRefused: P21.2: what stands behind the chapter's table.
func TestExamplesRefused(t *testing.T) {
	refused(t, "type", `opt(`, api.ErrForm, 4)
	refused(t, "type", `Int`, api.ErrForm, 0)
	refused(t, "type", `opt(opt(opt(opt(int))))`, api.ErrDeep, 16)
	refused(t, "value", `01`, api.ErrForm, 0)
	refused(t, "value", `~1.0`, api.ErrForm, 2)
	refused(t, "value", `"\x41"`, api.ErrForm, 1)
	refused(t, "value", `"\xff"`, api.ErrUtf, 0)
	refused(t, "value", `[1,2]`, api.ErrForm, 3)
	refused(t, "schema", `a int, a int`, api.ErrTwice, 0)
	refused(t, "schema", ``, api.ErrForm, 0)
	refused(t, "schema", `a int = "x"`, api.ErrType, 0)
	sameParse(t, ``, values())
}
