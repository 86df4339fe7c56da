package block

import (
	"gabion/api"
	"gabion/leb"
)

// unpackTokens is the bytes that tokens make.
func unpackTokens(t []byte) ([]byte, api.Errno) {
	var b []byte
	e := api.OK
reading:
	for len(t) > 0 {
		n, behind, wrong := leb.Get(t, 0)
		t = t[behind:]
		switch {
		case wrong != api.OK:
			e = wrong
		case n%2 == 0:
			b, t, e = takeLiterals(b, t, n/2)
		default:
			b, t, e = takeMatch(b, t, n/2)
		}
		if e != api.OK {
			break reading
		}
	}
	if e != api.OK {
		return nil, e
	}
	return b, api.OK
}

// takeLiterals lays literals behind the bytes that there are, and tells what is left of the tokens. Counts stay uint64 till they are known to be small.
func takeLiterals(b, t []byte, size uint64) ([]byte, []byte, api.Errno) {
	switch {
	case size == 0:
		return nil, nil, api.ErrForm
	case size > uint64(api.MaxBlock-len(b)):
		return nil, nil, api.ErrLong
	case size > uint64(len(t)):
		return nil, nil, api.ErrShort
	}
	return append(b, t[:size]...), t[size:], api.OK
}

// takeMatch does likewise with a match. Its size is judged ahead of its second number, which is not read if the size is wrong.
func takeMatch(b, t []byte, size uint64) ([]byte, []byte, api.Errno) {
	if size < api.MinMatch || size > api.MaxMatch {
		return nil, nil, api.ErrForm
	}
	back, behind, e := leb.Get(t, 0)
	switch {
	case e != api.OK:
		return nil, nil, e
	case back == 0 || back > api.Window || back > uint64(len(b)):
		return nil, nil, api.ErrForm
	case size > uint64(api.MaxBlock-len(b)):
		return nil, nil, api.ErrLong
	}
	// One by one, as the bytes that are taken may be some of those that have just been laid down.
	for range size {
		b = append(b, b[len(b)-int(back)])
	}
	return b, t[behind:], api.OK
}
