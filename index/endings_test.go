package index_test

import (
	"strings"

	"gabion/api"
)

// ending is bytes behind a whole file for which it ends, and why.
type ending struct {
	b    []byte
	want api.Errno
}

// atEndings are bytes of which scan.At has an error, each that it may have, but ErrDown, ErrRange and ErrEnd.
func atEndings() []ending {
	return []ending{
		{row(5, 1), api.ErrFence}, {row(5, 5000), api.ErrFence}, {[]byte{5, 0}, api.ErrFence}, {encoded(schemaFrame(0, ints))[1:], api.ErrFence},
		{row(0, 2), api.ErrEmpty}, {row(0, 5000), api.ErrEmpty}, {[]byte{0, 0, 5, 0}, api.ErrEmpty},
		{row(0, 1), api.ErrTorn}, {[]byte{0, 5}, api.ErrTorn}, {join(row(0, 1), row(5, maxFrame)), api.ErrTorn},
		{fenced(string(row(1, maxFrame+1))), api.ErrLong}, {join(row(0, 1), row(5, 9000)), api.ErrLong}, {fenced(runOf("\x01\x00" + string(row(1, 1025)))), api.ErrLong},
		{fenced("\x01"), api.ErrShort}, {fenced("\x05"), api.ErrShort}, {fenced("\x05\x01\x02\x03\x04"), api.ErrShort}, {fenced(runOf("\x01\x00")), api.ErrShort},
		{fenced("\xff" + string(row(7, 254)) + "\x01"), api.ErrForm}, {fenced(runOf("\x02\x80\x00")), api.ErrForm}, {fenced(runOf("\x02\x00\x00\x00\x00")), api.ErrForm}, {fenced(runOf("\x02\x00\x00\x00\x41")), api.ErrForm}, {fenced(runOf("\x03\x00\x00\x00\x00\x00")), api.ErrForm},
		{fenced("\x06\x01\x02\x03\x04\x05"), api.ErrSum}, {fenced(string(row(1, maxFrame))), api.ErrSum},
		{fenced(runOf("\x04")), api.ErrKind}, {fenced(runOf("\x00")), api.ErrKind}, {fenced(runOf("\x01\x00\x01\x01a\x08")), api.ErrKind},
		{fenced(runOf("\x01\x00\x00")), api.ErrEmpty}, {fenced(runOf("\x01\x00\x11")), api.ErrMany}, {fenced(runOf("\x01\x00\x01\x00")), api.ErrName}, {fenced(runOf("\x01\x00\x02\x01a\x02\x00\x01a")), api.ErrTwice},
		{fenced(runOf("\x01\x00\x01\x01a\x07\x07\x07\x07")), api.ErrDeep}, {fenced(runOf("\x01\x00\x01\x01a\x04\x01\x01\xff")), api.ErrUtf},
	}
}

// orderEndings are frames that don't follow a file's.
func orderEndings(l *laid) []ending {
	n, at := l.Number(), int64(len(l.b))
	frames := []api.Frame{
		schemaFrame(n+2, ints), schemaFrame(n+1<<30, ints), dataFrame(n+1, l.Frames(), l.Rows(), 1, "\x00\x02"), dataFrame(max(0, n), l.Frames()+1, l.Rows(), 1, "\x00\x02"), dataFrame(max(0, n), l.Frames(), l.Rows()+1, 1, "\x00\x02"),
		l.ownIndex(at + 1), indexFrame(at, l.Frames()+1, l.Rows(), l.Entries()...), indexFrame(at, l.Frames(), l.Rows()+1, l.Entries()...), indexFrame(at, l.Frames(), l.Rows(), append(l.Entries(), entry(0, 0, 0))...),
	}
	if n >= 0 {
		frames = append(frames, schemaFrame(n, longSchema(300)))
	}
	if n > 0 {
		frames = append(frames, schemaFrame(n-1, ints), dataFrame(n-1, l.Frames(), l.Rows(), 1, "\x00\x02"))
	}
	var told []ending
	for _, f := range frames {
		told = append(told, ending{encoded(f), api.ErrOrder})
	}
	return told
}

// wrongBlock is a block that is not so many rows of a schema, and why.
type wrongBlock struct {
	s    api.Schema
	rows int
	b    string
	want api.Errno
}

// wrongBlocks are some for each error of batch.Unpack that a frame's block may have: block.Unpack's, row.Decode's, and bytes left.
func wrongBlocks() []wrongBlock {
	x := strings.Repeat("\x02", 2049)
	return []wrongBlock{
		{ints, 1, "", api.ErrEmpty}, {ints, 1, "\x02", api.ErrForm}, {ints, 1, "\xff\x02", api.ErrForm}, {ints, 64, "\x00" + x, api.ErrLong}, {ints, 1, "\x01\x82\x20" + x, api.ErrLong}, {ints, 1, "\x01\x02", api.ErrShort}, {ints, 1, "\x01\x00", api.ErrForm}, {ints, 1, "\x01\x02\x02\x09\x02", api.ErrForm},
		{ints, 1, "\x00", api.ErrShort}, {ints, 1, "\x01", api.ErrShort}, {ints, 2, "\x00\x02", api.ErrShort}, {ints, 64, "\x00\x02", api.ErrShort}, {ints, 1, "\x00\x80", api.ErrShort}, {ints, 1, "\x00\x80\x00", api.ErrForm},
		{ints, 1, "\x00\x02\x02", api.ErrForm}, {ints, 63, "\x00" + x[:64], api.ErrForm}, {ints, 1, "\x00" + x[:2048], api.ErrForm},
		{texts, 1, "\x00\x01\xff", api.ErrUtf}, {texts, 1, "\x00\x81\x08", api.ErrLong}, {texts, 2, "\x00\x01a\x05a", api.ErrShort},
		{of(plain("a", ofBool)), 2, "\x00\x01\x02", api.ErrForm}, {of(plain("a", listOf(ofBool))), 1, "\x00\x81\x02", api.ErrMany}, {of(plain("a", ofFloat)), 1, "\x00\xff\xff\xff\xff\xff\xff\xff\xff", api.ErrForm},
		{of(plain("a", ofBytes), plain("b", ofBytes)), 1, "\x00\xd8\x04" + x[:600] + "\xd8\x04" + x[:600], api.ErrLong},
	}
}

// begun are files that such bytes stand behind: without rows, and with some.
func begun() []*laid {
	return []*laid{{}, plainFile(), plainFile(1), plainFile(3, 1, 4), exampleFile(), longFile(9)}
}
