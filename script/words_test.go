package script_test

import (
	"fmt"
	"hash/crc32"
	"regexp"
	"strconv"
	"strings"
	"testing"

	"gabion/api"
	"gabion/file"
	"gabion/script"
	"gabion/text"
)

// The document's limits, told by hand.
const (
	maxLine   = 1024
	maxLines  = 1000
	maxScript = 65536
	maxQuota  = 1048576
)

const digits = `(0|[1-9][0-9]{0,8})`

// The lines of the document's table, by what stands behind their words.
var (
	bareLine   = regexp.MustCompile(`^(append|drop|sync|start|close|rows|salvage|bytes)$`)
	numberLine = regexp.MustCompile(`^(new|from) ` + digits + `$`)
	pairLine   = regexp.MustCompile(`^(fail|damage) ` + digits + ` ` + digits + `$`)
	textLine   = regexp.MustCompile(`(?s)^(open|change|tail|as) (.+)$`)
	rowLine    = regexp.MustCompile(`(?s)^(put) (.*)$`)
)

// isLine tells whether a line is one of the table's.
func isLine(line string) bool {
	for _, form := range []*regexp.Regexp{bareLine, numberLine, pairLine, textLine, rowLine} {
		if form.MatchString(line) {
			return true
		}
	}
	return false
}

// wordDesk is a desk by the chapter's words.
type wordDesk struct {
	f       *file.File
	waiting []api.Row
}

func newWordDesk() *wordDesk {
	f, e := file.New(maxQuota)
	if e != api.OK {
		panic("a quota that is refused")
	}
	return &wordDesk{f: f}
}

// line does a line.
func (w *wordDesk) line(line string) (string, api.Errno) {
	if len(line) > maxLine {
		return "", api.ErrLong
	}
	if !isLine(line) {
		return "", api.ErrLine
	}
	if m := numberLine.FindStringSubmatch(line); m != nil {
		return w.withNumber(m[1], number(m[2])), api.OK
	}
	if m := pairLine.FindStringSubmatch(line); m != nil {
		if m[1] == "fail" {
			return only(w.f.Fail(number(m[2]), number(m[3]))), api.OK
		}
		return only(w.f.Damage(number(m[2]), byte(number(m[3])%256))), api.OK
	}
	if m := textLine.FindStringSubmatch(line); m != nil && m[1] == "tail" {
		return w.tail(m[2]), api.OK
	} else if m != nil {
		return w.withSchema(m[1], m[2]), api.OK
	}
	if m := rowLine.FindStringSubmatch(line); m != nil {
		return w.put(m[2]), api.OK
	}
	return w.bare(line), api.OK
}

// number is what digits say, of which there are few.
func number(s string) int {
	n, err := strconv.ParseUint(s, 10, 31)
	if err != nil {
		panic(err)
	}
	return int(n)
}

// only is the answer to a call that tells an error alone.
func only(e api.Errno) string {
	if e != api.OK {
		return fmt.Sprintf("error %d", e)
	}
	return "ok"
}

func (w *wordDesk) withNumber(word string, n int) string {
	if word == "new" {
		f, e := file.New(n)
		if e == api.OK {
			w.f, w.waiting = f, nil
		}
		return only(e)
	}
	l, e := w.f.From(int64(n))
	if e == api.ErrRange || e == api.ErrDown {
		return only(e)
	}
	return told(l, e)
}

func (w *wordDesk) withSchema(word, s string) string {
	schema, e, at := text.ParseSchema(s)
	if e != api.OK {
		return fmt.Sprintf("error %d at %d", e, at)
	}
	switch word {
	case "open":
		return only(w.f.Open(schema))
	case "change":
		return only(w.f.Change(schema))
	}
	return told(w.f.As(schema, nil))
}

func (w *wordDesk) tail(s string) string {
	v, e, at := text.ParseValue(s)
	if e != api.OK {
		return fmt.Sprintf("error %d at %d", e, at)
	}
	if v.Kind != api.Bytes {
		return "error 60"
	}
	return only(w.f.Tail([]byte(v.Text)))
}

func (w *wordDesk) put(s string) string {
	r, e, at := text.ParseRow(s)
	if e != api.OK {
		return fmt.Sprintf("error %d at %d", e, at)
	}
	w.waiting = append(w.waiting, r)
	return "ok"
}

func (w *wordDesk) bare(word string) string {
	switch word {
	case "append":
		e := w.f.Append(w.waiting)
		if e == api.OK {
			w.waiting = nil
		}
		return only(e)
	case "drop":
		w.waiting = nil
		return "ok"
	case "sync":
		return only(w.f.Sync())
	case "start":
		return only(w.f.Start())
	case "close":
		indexed, e := w.f.Close()
		if e != api.OK {
			return only(e)
		}
		return fmt.Sprintf("ok %t", indexed)
	case "rows":
		return told(w.f.Rows())
	case "salvage":
		return saved(w.f.Salvage())
	}
	b := w.f.Bytes()
	return fmt.Sprintf("ok %d %08x", len(b), crc32.ChecksumIEEE(b))
}

func told(l []api.Told, e api.Errno) string {
	s := fmt.Sprintf("ok %d %d", len(l), e)
	for _, one := range l {
		row, _ := text.PrintRow(one.Row)
		if one.E != api.OK {
			row = fmt.Sprintf("error %d", one.E)
		}
		s += fmt.Sprintf("\n %d %d %s", one.At, one.Number, row)
	}
	return s
}

func saved(l []api.Batch) string {
	s := fmt.Sprintf("ok %d", len(l))
	for _, one := range l {
		s += fmt.Sprintf("\n %d %d %d %d %d", one.At, one.Number, one.Seq, one.First, len(one.Rows))
	}
	return s
}

// wordRun does a script by the chapter's words.
func wordRun(s string) (string, api.Errno, int) {
	var lines []string
	for rest := s; rest != ""; {
		at := strings.IndexByte(rest, '\n')
		if at < 0 {
			lines = append(lines, rest)
			break
		}
		lines = append(lines, rest[:at])
		rest = rest[at+1:]
	}
	if len(s) > maxScript || len(lines) > maxLines {
		return "", api.ErrLong, 0
	}
	passed := func(line string) bool { return line == "" || strings.HasPrefix(line, "#") }
	for i, line := range lines {
		if !passed(line) && (len(line) > maxLine || !isLine(line)) {
			return "", api.ErrScript, i + 1
		}
	}
	answers, w := "", newWordDesk()
	for _, line := range lines {
		if !passed(line) {
			answer, _ := w.line(line)
			answers += answer + "\n"
		}
	}
	return answers, api.OK, 0
}

// pair is a desk, and one by the words that is told the same lines.
type pair struct {
	desk  *script.Desk
	words *wordDesk
}

func newPair() pair { return pair{script.New(), newWordDesk()} }

// line does a line by both, which must answer the same.
func (p pair) line(t *testing.T, line string) (string, api.Errno) {
	t.Helper()
	got, e := p.desk.Line(line)
	want, wantE := p.words.line(line)
	if got != want || e != wantE {
		t.Fatalf("%s: %s, %d, want %s, %d", brief(line), brief(got), e, brief(want), wantE)
	}
	return got, e
}

// same asks that both stand as one another, as far as lines tell it that change nothing.
func (p pair) same(t *testing.T) {
	t.Helper()
	for _, line := range []string{"bytes", "rows", "salvage", "from 0"} {
		p.line(t, line)
	}
}

// do does lines, whatever the answers are.
func (p pair) do(t *testing.T, lines ...string) pair {
	t.Helper()
	for _, line := range lines {
		p.line(t, line)
	}
	return p
}

// talk does lines, behind each of which the answer stands that is wanted.
func (p pair) talk(t *testing.T, by ...string) pair {
	t.Helper()
	for i := 0; i < len(by); i += 2 {
		if got, e := p.line(t, by[i]); got != by[i+1] || e != api.OK {
			t.Fatalf("%s: %s, %d, want %s", brief(by[i]), brief(got), e, brief(by[i+1]))
		}
	}
	return p
}

// refuse asks that each line is refused, and that nothing comes of it.
func (p pair) refuse(t *testing.T, want api.Errno, lines ...string) pair {
	t.Helper()
	for _, line := range lines {
		if got, e := p.line(t, line); got != "" || e != want {
			t.Fatalf("%s: %s, %d, want %d", brief(line), brief(got), e, want)
		}
	}
	return p
}

// mustRun asks what a script tells.
func mustRun(t *testing.T, s, want string, wantE api.Errno, wantAt int) {
	t.Helper()
	got, e, at := script.Run(s)
	if got != want || e != wantE || at != wantAt {
		t.Fatalf("Run of %d bytes, %s: %s, %d, %d, want %s, %d, %d", len(s), brief(s), brief(got), e, at, brief(want), wantE, wantAt)
	}
	if got, e, at := wordRun(s); got != want || e != wantE || at != wantAt {
		t.Fatalf("Run of %s, by the words: %s, %d, %d, want %s, %d, %d", brief(s), brief(got), e, at, brief(want), wantE, wantAt)
	}
}

// asWords asks that a script tells what the words say.
func asWords(t *testing.T, s string) (string, api.Errno, int) {
	t.Helper()
	want, e, at := wordRun(s)
	mustRun(t, s, want, e, at)
	return want, e, at
}

// brief is a text, quoted, without its midst if it is long.
func brief(s string) string {
	if len(s) > 400 {
		return strconv.QuoteToASCII(s[:200]) + ".." + strconv.QuoteToASCII(s[len(s)-200:])
	}
	return strconv.QuoteToASCII(s)
}

// many is a text, so often.
func many(s string, n int) string { return strings.Repeat(s, n) }

// mixed is the n-th of a row of well mixed words, the same ones in every run.
func mixed(n uint64) uint64 {
	z := (n + 1) * 0x9e3779b97f4a7c15
	z = (z ^ z>>30) * 0xbf58476d1ce4e5b9
	z = (z ^ z>>27) * 0x94d049bb133111eb
	return z ^ z>>31
}

// mixedBytes are n mixed bytes.
func mixedBytes(seed uint64, n int) []byte {
	b := make([]byte, n)
	for i := range b {
		b[i] = byte(mixed(seed<<24 + uint64(i)))
	}
	return b
}
