package recast_test

import (
	"testing"

	"gabion/api"
)

// TestExamples: the chapter's examples.
func TestExamples(t *testing.T) {
	for _, from := range []step{{ints, numbers(1, 2, odd)}} {
		to := newDev(1000)
		mustRecast(t, written(from), to, real, 2, 2, 1, api.OK)
		mustHold(t, to, "S 2 X", reals(1, 2))
		mustRecast(t, written(from), newDev(1000), real, 0, 0, 0, api.ErrArg)
		mustRecast(t, written(from), newDev(20), real, 2, 0, 1, api.ErrNoSpace)
		mustRecast(t, written(from), newDev(20), real, 1, 0, 0, api.ErrNoSpace) // the second row was told
	}
}

// TestWhole: DOC.md's examples 1 to 4: rows 1, 2 of `a int` under other schemas.
func TestWhole(t *testing.T) {
	from := written(step{ints, numbers(1, 2)})
	to := newDev(1000)
	mustRecast(t, from, to, two, 64, 2, 0, api.OK)
	mustHold(t, to, "S 2 X", []api.Row{values(number(1), text("x")), values(number(2), text("x"))})
	to = newDev(1000)
	mustRecast(t, from, to, real, 64, 2, 0, api.OK)
	mustHold(t, to, "S 2 X", reals(1, 2))
	to = newDev(1000)
	mustRecast(t, from, to, of(plain("a", optOf(ofInt))), 64, 2, 0, api.OK)
	mustHold(t, to, "S 2 X", rows(opt(number(1)), opt(number(2))))
	to = newDev(1000)
	mustRecast(t, from, to, of(plain("c", ofInt)), 64, 0, 2, api.OK)
	mustHold(t, to, "X", nil)
}
