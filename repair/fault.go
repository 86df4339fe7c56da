package repair

import (
	"errors"
	"strconv"

	"gabion/api"
)

// fault is what went wrong within: an error that wraps the Errno that is answered for it.
type fault struct{ errno api.Errno }

func (f fault) Error() string { return "repair: error " + strconv.Itoa(int(f.errno)) }

// errnoOf is the Errno that an error wraps; OK of none.
func errnoOf(err error) api.Errno {
	var f fault
	if errors.As(err, &f) {
		return f.errno
	}
	return api.OK
}
