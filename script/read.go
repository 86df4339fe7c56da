package script

import (
	"strconv"
	"strings"

	"gabion/api"
)

// given is what a line says behind its word.
type given struct {
	text string
	n, m int
}

// An order is a line of the table: who does it, and of what.
type order struct {
	do    doer
	given given
}

// readLine is what a line orders, if it is one of the table's.
func readLine(line string) (order, bool) {
	word, behind, blank := strings.Cut(line, " ")
	k, known := table()[word]
	if !known || blank == (k.behind == nothing) {
		return order{}, false
	}
	g, is := readBehind(k.behind, behind)
	return order{k.do, g}, is
}

// readBehind is what stands behind a word and its blank, if that may stand there.
func readBehind(what int, behind string) (given, bool) {
	switch what {
	case someText:
		return given{text: behind}, behind != ""
	case oneNumber:
		n, is := readNumber(behind)
		return given{n: n}, is
	case twoNumbers:
		first, second, _ := strings.Cut(behind, " ")
		n, is := readNumber(first)
		m, isToo := readNumber(second)
		return given{n: n, m: m}, is && isToo
	}
	return given{text: behind}, true
}

// readNumber is the number that digits say, if they say it in the one way in which it is told.
func readNumber(digits string) (int, bool) {
	const most = 999999999
	n, err := strconv.Atoi(digits)
	return n, err == nil && 0 <= n && n <= most && strconv.Itoa(n) == digits
}

// readLines is what lines order, those passed over that are no orders; or the number of the first one that is wrong. It reads all of them ahead of whatever is done, as nothing is if one is wrong.
func readLines(lines []string) (orders []order, wrong int) {
	for i, line := range lines {
		if line == "" || line[0] == '#' {
			continue
		}
		o, is := readLine(line)
		if !is || len(line) > api.MaxLine {
			return nil, i + 1
		}
		orders = append(orders, o)
	}
	return orders, 0
}
