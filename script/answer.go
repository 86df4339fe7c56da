package script

import (
	"strconv"
	"strings"

	"gabion/api"
	"gabion/crc"
	"gabion/text"
)

// A failure is the answer that who fails gives up with, by a panic.
type failure string

// giveUp tells an error in place of whatever else the line would do.
func giveUp(e api.Errno) {
	panic(failure("error" + numberText(e)))
}

// need gives up, unless it is OK.
func need(e api.Errno) {
	if e != api.OK {
		giveUp(e)
	}
}

// parsed is what a text was read as; where it is wrong, who gives up tells the place, too.
func parsed[T any](told T, e api.Errno, at int) T {
	if e != api.OK {
		panic(failure("error" + numberText(e) + " at" + numberText(at)))
	}
	return told
}

// In an answer each part but the first one has a blank ahead of it.
func numberText[N ~int | ~int64](n N) string {
	return " " + strconv.FormatInt(int64(n), 10)
}

func boolText(is bool) string {
	return " " + strconv.FormatBool(is)
}

// toldText is rows that were read, a line each, and why their reading ended.
func toldText(l []api.Told, e api.Errno) string {
	var b strings.Builder
	b.WriteString(numberText(len(l)) + numberText(e))
	for _, one := range l {
		b.WriteString("\n" + numberText(one.At) + numberText(one.Number) + rowText(one))
	}
	return b.String()
}

// rowText is a row, or why it can't be told.
func rowText(one api.Told) string {
	if one.E != api.OK {
		return " error" + numberText(one.E)
	}
	row, _ := text.PrintRow(one.Row) // refuses no row that was read
	return " " + row
}

// savedText is batches, a line each.
func savedText(l []api.Batch) string {
	var b strings.Builder
	b.WriteString(numberText(len(l)))
	for _, one := range l {
		b.WriteString("\n" + numberText(one.At) + numberText(one.Number) + numberText(one.Seq) + numberText(one.First) + numberText(len(one.Rows)))
	}
	return b.String()
}

// bytesText is how many bytes there are, and their check.
func bytesText(b []byte) string {
	const most = 8
	digits := strconv.FormatUint(uint64(crc.Sum(b)), 16)
	return numberText(len(b)) + " " + strings.Repeat("0", most-len(digits)) + digits
}
