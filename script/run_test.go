package script_test

import (
	"strconv"
	"strings"
	"testing"

	"gabion/api"
	"gabion/script"
)

// TestRunNothing: P23.2: a script without a line to be done tells nothing.
func TestRunNothing(t *testing.T) {
	for _, s := range []string{"", "\n", "\n\n", many("\n", 17), "#", "#\n", "# fly", "#fly\n", "\n#\n\n#\n", "##", "#\x00\xff\n", "# rows\n# rows"} {
		mustRun(t, s, "", api.OK, 0)
	}
}

// TestRunAnswers: P23.2: the answers of all lines, by one desk, each with a line feed behind it, whether the last line has one or not.
func TestRunAnswers(t *testing.T) {
	mustRun(t, "rows", "ok 0 0\n", api.OK, 0)
	mustRun(t, "rows\n", "ok 0 0\n", api.OK, 0)
	mustRun(t, "\nrows\n\n", "ok 0 0\n", api.OK, 0)
	mustRun(t, "append\nrows", "error 6\nok 0 0\n", api.OK, 0)
	mustRun(t, "open a int\nput 1\nput 2\nappend\nrows\nclose\nclose", "ok\nok\nok\nok\nok 2 0\n 0 0 1\n 1 0 2\nok true\nerror 6\n", api.OK, 0)
	mustRun(t, "# a remark\n\nopen a text\n\n#put 1\nput \"#\"\nappend\n#\nrows\n#", "ok\nok\nok\nok 1 0\n 0 0 \"#\"\n", api.OK, 0)
	mustRun(t, "put \nopen a int\nappend\nput 01\nput 1,2\nopen A", "ok\nok\nerror 80\nerror 5 at 0\nerror 5 at 2\nerror 5 at 0\n", api.OK, 0)
	// Errors end nothing.
	mustRun(t, "close\nclose\nstart\nfrom 0\nrows", "error 6\nerror 6\nerror 6\nerror 7\nok 0 0\n", api.OK, 0)
}

// TestRunAnew: P23.2: each Run has a desk of its own.
func TestRunAnew(t *testing.T) {
	const s = "rows\nopen a int\nput 1\nput 2\nappend\nput 3\nbytes\nfail 0 0\nappend\n"
	want, _, _ := asWords(t, s)
	for range 3 {
		mustRun(t, s, want, api.OK, 0)
	}
	mustRun(t, "append\nopen a int\nappend\nstart\n", "error 6\nok\nerror 4\nerror 6\n", api.OK, 0)
}

// TestRunWrong: P23.2: the number of the first line that is none, wherever it stands; those that are passed over count.
func TestRunWrong(t *testing.T) {
	right := []string{"open a int", "put 1", "append", "", "# fly", "rows", "sync", "close"}
	for _, wrong := range []string{"fly", " ", "  ", " rows", "rows ", "rows now", " # fly", "\t", "\r", "rows\r", "new 01", "put", "open", "open ", "fail 0", "damage 0 -1", "from", "from 1 1", "tail ", "as", "bytes 0", "\x00", "\xff", "ok", "error 6", " 0 0 1", longLine(`put "`, maxLine+1, `"`), many("x", maxLine+1), many(" ", 5000)} {
		for at := range len(right) + 1 {
			lines := append(append(append([]string{}, right[:at]...), wrong), right[at:]...)
			for _, end := range []string{"", "\n", "\n\n", "\n# end"} {
				mustRun(t, strings.Join(lines, "\n")+end, "", api.ErrScript, at+1)
			}
			mustRun(t, strings.Join(lines, "\n")+"\nfly\n"+many("x", maxLine+1), "", api.ErrScript, at+1)
		}
		mustRun(t, wrong, "", api.ErrScript, 1)
		mustRun(t, "\n\n\n#\n"+wrong, "", api.ErrScript, 5)
		mustRun(t, wrong+"\n"+wrong, "", api.ErrScript, 1)
	}
	mustRun(t, "rows\n"+many("x", maxLine+1)+"\nfly", "", api.ErrScript, 2)
	mustRun(t, many("drop\n", 999)+"drop ", "", api.ErrScript, 1000)
}

// TestRunLongLines: P23.2: a line of MaxLine bytes is taken, one of one byte more is not; a remark may be longer.
func TestRunLongLines(t *testing.T) {
	head, last := "open a text\n", "\nappend\nrows\n"
	taken := longLine(`put "`, maxLine, `"`)
	mustRun(t, head+taken+last, "ok\nok\nok\nok 1 0\n 0 0 \""+many("x", maxLine-6)+"\"\n", api.OK, 0)
	mustRun(t, head+longLine(`put "`, maxLine+1, `"`)+last, "", api.ErrScript, 2)
	mustRun(t, head+"put \"\""+last+longLine(`put "`, maxLine+1, `"`), "", api.ErrScript, 5)
	mustRun(t, longLine(`put "`, maxLine+1, `"`), "", api.ErrScript, 1)
	for _, n := range []int{maxLine - 1, maxLine, maxLine + 1, 2 * maxLine, 60000} {
		mustRun(t, longLine("#", n, "")+"\nrows\n"+longLine("#", 1500, ""), "ok 0 0\n", api.OK, 0)
	}
}

// TestRunLongScripts: P23.2: MaxScript bytes are taken, one more is refused, whatever the lines are.
func TestRunLongScripts(t *testing.T) {
	remark := func(n int) string { return longLine("#", n, "") }
	mustRun(t, remark(maxScript), "", api.OK, 0)
	mustRun(t, remark(maxScript+1), "", api.ErrLong, 0)
	mustRun(t, remark(maxScript-1)+"\n", "", api.OK, 0)
	mustRun(t, remark(maxScript)+"\n", "", api.ErrLong, 0)
	mustRun(t, "rows\n"+remark(maxScript-10)+"\nrows", "ok 0 0\nok 0 0\n", api.OK, 0)
	mustRun(t, "rows\n"+remark(maxScript-10)+"\nrows\n", "", api.ErrLong, 0)
	mustRun(t, "fly\n"+remark(maxScript-4), "", api.ErrScript, 1)
	mustRun(t, "fly\n"+remark(maxScript-3), "", api.ErrLong, 0)
	mustRun(t, many("x", maxScript), "", api.ErrScript, 1)
	mustRun(t, many("x", maxScript+1), "", api.ErrLong, 0)
	mustRun(t, many(remark(1023)+"\n", 64), "", api.OK, 0)
	mustRun(t, many(remark(1023)+"\n", 64)+"#", "", api.ErrLong, 0)

	put := longLine(`put "`, maxLine-1, `"`) + "\n"
	mustRun(t, many(put, 64), many("ok\n", 64), api.OK, 0)
	mustRun(t, many(put, 64)+"\n", "", api.ErrLong, 0)
	mustRun(t, many("x", 1000000), "", api.ErrLong, 0)
}

// TestRunManyLines: P23.2: MaxLines lines are taken, one more is refused; the empty ones and the remarks count.
func TestRunManyLines(t *testing.T) {
	for line, answer := range map[string]string{"drop\n": "ok\n", "\n": "", "#\n": "", "# x\n": "", "rows\n": "ok 0 0\n"} {
		mustRun(t, many(line, maxLines-1), many(answer, maxLines-1), api.OK, 0)
		mustRun(t, many(line, maxLines), many(answer, maxLines), api.OK, 0)
		mustRun(t, many(line, maxLines)+line, "", api.ErrLong, 0)
		mustRun(t, many(line, maxLines)+"\n", "", api.ErrLong, 0)
		mustRun(t, many(line, maxLines)+"#", "", api.ErrLong, 0)
		mustRun(t, many(line, maxLines)+"drop", "", api.ErrLong, 0)
		mustRun(t, many(line, maxLines-1)+"drop", many(answer, maxLines-1)+"ok\n", api.OK, 0)
		mustRun(t, "fly\n"+many(line, maxLines), "", api.ErrLong, 0)
		mustRun(t, many(line, maxLines)+"fly", "", api.ErrLong, 0)
		mustRun(t, many(line, maxLines-1)+"fly", "", api.ErrScript, maxLines)
		mustRun(t, many(line, maxLines-1)+"fly\n", "", api.ErrScript, maxLines)
	}
	mustRun(t, many("\n", maxScript), "", api.ErrLong, 0)
}

// joinable are texts that end in a line feed.
var joinable = []string{
	"\n", "#\n", "rows\n", "open a int\n", "open a int\nput 1\nappend\n", "open a int\nput 1\nappend\nclose\n", "put 1\nput 2\n", "open a int\nput 1\nappend\nsync\nfail 3 1\nput 2\nappend\n", "tail 'xyz'\n", "# x\n\nopen b text\nput \"\\x0a\"\nappend\nrows\n", "new 5\n", "\n\nfail 0 0\nopen a int\n",
}

// TestJoined: P23.3: of two texts, of which the first one ends in a line feed, joined, Run begins with what it tells of the first one.
func TestJoined(t *testing.T) {
	second := append([]string{"", "rows", "start\nrows", "append", "bytes\nsalvage\n", "open a int\nput 7\nappend\nrows\nclose\nfrom 0"}, joinable...)
	for _, first := range joinable {
		begins, e, at := asWords(t, first)
		if e != api.OK || at != 0 {
			t.Fatalf("%q: %d, %d", first, e, at)
		}
		for _, next := range second {
			all, e, at := asWords(t, first+next)
			if e != api.OK || at != 0 || !strings.HasPrefix(all, begins) {
				t.Fatalf("%q and %q: %s, %d, %d, does not begin with %s", first, next, brief(all), e, at, brief(begins))
			}
			if next == "" && all != begins {
				t.Fatalf("%q: %s, then %s", first, brief(begins), brief(all))
			}
		}
		// Of a second one that is wrong nothing is told, and its line counts behind the first one's.
		mustRun(t, first+"rows\nfly", "", api.ErrScript, strings.Count(first, "\n")+2)
	}
	mustRun(t, "put 1\nopen a int\nappend\n"+"rows", "ok\nok\nok\nok 1 0\n 0 0 1\n", api.OK, 0)
}

// TestRunIsLines: P23.2: a script's answers are those that a desk gives to its lines one by one.
func TestRunIsLines(t *testing.T) {
	for _, lines := range stands {
		all := append(append([]string{}, lines...), behind...)
		want := ""
		d := script.New()
		for _, line := range all {
			answer, e := d.Line(line)
			if e != api.OK {
				t.Fatalf("%s: %d", line, e)
			}
			want += answer + "\n"
		}
		mustRun(t, strings.Join(all, "\n"), want, api.OK, 0)
	}
}

// TestRunLong: P23.2: a script of many rows, each of which is told over and over.
func TestRunLong(t *testing.T) {
	s, rows := "open a int\n", ""
	for n := range 100 {
		s += "put " + strconv.Itoa(n) + "\nappend\n"
		rows += "\n " + strconv.Itoa(n) + " 0 " + strconv.Itoa(n)
	}
	want := "ok\n" + many("ok\nok\n", 100) + many("ok 100 0"+rows+"\n", 700)
	mustRun(t, s+many("rows\n", 700), want, api.OK, 0)
}
