package script_test

import (
	"strings"
	"testing"

	"gabion/api"
	"gabion/script"
)

// The words of the table, by what stands behind them.
var (
	bare    = []string{"append", "drop", "sync", "start", "close", "rows", "salvage", "bytes"}
	schemas = []string{"open", "change", "as"}
	ones    = []string{"new", "from"}
	twos    = []string{"fail", "damage"}
)

// TestNew: P23.1: a desk at its beginning has an empty file of the greatest quota, that is not open, and no rows wait.
func TestNew(t *testing.T) {
	newPair().talk(t, "rows", "ok 0 0", "salvage", "ok 0", "bytes", "ok 0 00000000", "from 0", "error 7", "append", "error 6", "close", "error 6", "start", "error 6")
	newPair().talk(t, "open a int", "ok", "append", "error 4", "close", "ok true", "bytes", "ok 12 2b7a6e1f")
}

// TestQuotaAtFirst: P23.1: the quota at first is MaxQuota, to the byte.
func TestQuotaAtFirst(t *testing.T) {
	p := newPair()
	longest := "tail '" + many("x", 1000) + "'"
	for range 1048 {
		p.talk(t, longest, "ok")
	}
	p.talk(t, "damage 0 0", "ok", "damage 1047999 0", "ok", "damage 1048000 0", "error 7")

	// Appends up to the last byte, and one of a byte more.
	p = newPair().talk(t, "open a text", "ok")
	for n := 0; maxQuota-len(p.bytesOf()) > 900; n++ {
		p.talk(t, `put "`+letters(n, 600)+`"`, "ok", "append", "ok")
	}
	last := maxQuota - len(p.bytesOf())
	for !p.fits(letters(0, last)) {
		last--
	}
	p.talk(t, `put "`+letters(0, last+1)+`"`, "ok", "append", "error 52", "drop", "ok", `put "`+letters(0, last)+`"`, "ok", "append", "ok", "put \"\"", "ok", "append", "error 52", "close", "ok false")
	if got := len(p.bytesOf()); got != maxQuota {
		t.Fatalf("%d bytes, and a byte more is too much", got)
	}
}

// letters are n letters that are packed into no fewer bytes.
func letters(seed, n int) string {
	b := mixedBytes(uint64(seed), n)
	for i := range b {
		b[i] = 'a' + b[i]%26
	}
	return string(b)
}

// fits tells whether a row of a text can be appended to the file.
func (p pair) fits(s string) bool {
	f := p.words.f.Clone()
	f.Open(api.Schema{Columns: []api.Column{{Name: "a", Type: api.Type{Kind: api.Text}}}})
	return f.Append([]api.Row{{Values: []api.Value{{Kind: api.Text, Text: s}}}}) == api.OK
}

// TestBare: P23.1: a word that takes nothing has nothing behind it, no blank either.
func TestBare(t *testing.T) {
	for _, word := range bare {
		if _, e := script.New().Line(word); e != api.OK {
			t.Errorf("%s: %d", word, e)
		}
		newPair().refuse(t, api.ErrLine, word+" ", word+"  ", " "+word, word+" 1", word+" now", word+" a int", word+"\n", word+"\t", word+"\r", word+"s", word+"\x00", strings.ToUpper(word), word[:len(word)-1], word+word, word+" "+word)
	}
}

// TestSchemaLines: P23.1: open, change, as: a blank, and any text, one byte at least.
func TestSchemaLines(t *testing.T) {
	for _, word := range schemas {
		p := newPair().refuse(t, api.ErrLine, word, word+"a int", " "+word+" a int", word+"\ta int", strings.ToUpper(word)+" a int")
		p.refuse(t, api.ErrLine, word+" ")
		p.talk(t, word+"  ", "error 5 at 0", word+"  a int", "error 5 at 0", word+"   a int", "error 5 at 0", word+" a  int", "error 5 at 2", word+" a int ", "error 5 at 6", word+" \n", "error 5 at 0", word+" a int\n", "error 5 at 5", word+" \x00", "error 5 at 0", word+" \xff", "error 5 at 0")
	}
	newPair().talk(t, "as a int", "ok 0 0", "change a int", "error 6", "open a int", "ok", "change a int", "ok", "open a int", "error 6", "as a int", "ok 0 0")
}

// TestTailLines: P23.1: tail: a blank, and any text, one byte at least.
func TestTailLines(t *testing.T) {
	p := newPair().refuse(t, api.ErrLine, "tail", "tail ", "tail'x'", "tail\t'x'", " tail 'x'", "TAIL 'x'")
	p.talk(t, "tail  ", "error 5 at 0", "tail  'x'", "error 5 at 0", "tail 'x' ", "error 5 at 3", "tail 'x'\n", "error 5 at 3", "tail \n", "error 5 at 0", "bytes", "ok 0 00000000")
	p.talk(t, "tail 'x'", "ok", "bytes", "ok 1 8cdc1683", "tail ''", "ok", "bytes", "ok 1 8cdc1683")
}

// TestPutLines: P23.1: put: a blank, and any text, which may have no byte; without the blank it is no line.
func TestPutLines(t *testing.T) {
	p := newPair().refuse(t, api.ErrLine, "put", "put5", "put\t5", " put 5", "PUT 5", "puts 5")
	p.talk(t, "put ", "ok", "put  ", "error 5 at 0", "put  5", "error 5 at 0", "put 5 ", "error 5 at 1", "put 5\n", "error 5 at 1", "put \n", "error 5 at 0", "put 5, ", "error 5 at 3")
	p.talk(t, "open a int", "ok", "append", "error 80", "put 5", "ok", "append", "error 80", "drop", "ok", "put 5", "ok", "append", "ok", "rows", "ok 1 0\n 0 0 5")
}

// wrongNumbers are no numbers as a line tells them.
var wrongNumbers = []string{"", "00", "01", "007", "0123456789", "1000000000", "9999999999", "1234567890", many("1", 100), "-1", "-0", "+1", "+0", "-", "+", "1.0", "1e3", "0x1", "1_0", "a", "1a", "a1", "1,", "\n", "1\n", "\t1", "1\t", "1\x00", "\xff", "\u0661", "\uff11", "''"}

// rightNumbers are such.
var rightNumbers = []string{"0", "1", "5", "9", "10", "99", "100", "1048576", "1048577", "100000000", "999999998", "999999999"}

// TestOneNumber: P23.1: new and from: a blank, and one to nine digits, without a 0 ahead of others.
func TestOneNumber(t *testing.T) {
	for _, word := range ones {
		newPair().refuse(t, api.ErrLine, word, word+" ", word+"  ", word+"0", word+"\t0", " "+word+" 0", strings.ToUpper(word)+" 0")
		for _, n := range wrongNumbers {
			newPair().refuse(t, api.ErrLine, word+" "+n, word+" "+n+" ")
		}
		for _, n := range rightNumbers {
			newPair().refuse(t, api.ErrLine, word+"  "+n, word+" "+n+" ", word+" "+n+" 1", word+" "+n+"\n", word+" "+n+" "+n)
			if answer, e := newPair().line(t, word+" "+n); answer == "" || e != api.OK {
				t.Fatalf("%s %s: %s, %d", word, n, answer, e)
			}
		}
	}
}

// TestTwoNumbers: P23.1: fail and damage: that twice, one blank between them.
func TestTwoNumbers(t *testing.T) {
	for _, word := range twos {
		newPair().refuse(t, api.ErrLine, word, word+" ", word+"  ", word+"   ", word+" 0", word+" 0 ", word+"  0", word+"0 0", word+"\t0 0", word+" 0\t0", " "+word+" 0 0", strings.ToUpper(word)+" 0 0")
		for _, n := range wrongNumbers {
			newPair().refuse(t, api.ErrLine, word+" "+n+" 0", word+" 0 "+n, word+" "+n+" "+n, word+" "+n)
		}
		for _, n := range rightNumbers {
			newPair().refuse(t, api.ErrLine, word+" "+n, word+" "+n+" ", word+"  "+n+" 0", word+" 0  "+n, word+" "+n+" 0 ", word+" 0 "+n+" ", word+" 0 0 "+n, word+" "+n+" 0\n")
			for _, line := range []string{word + " " + n + " 0", word + " 0 " + n, word + " " + n + " " + n} {
				if answer, e := newPair().line(t, line); answer == "" || e != api.OK {
					t.Fatalf("%s: %s, %d", line, answer, e)
				}
			}
		}
	}
}

// TestNoLine: P23.1: whatever is none of the table's is refused; remarks and empty lines are a script's alone.
func TestNoLine(t *testing.T) {
	newPair().refuse(t, api.ErrLine, "", " ", "  ", "\n", "#", "# rows", "#rows", "fly", "ok", "error 6", "counted", "clone", "opened", "need", "cut 0", "row", "rowss", "Rows", "rows\nrows", "append\nappend", "open", "\x00", "\xff\xfe", "new5", "new", "put", "é", "a int", "5")
	// Each word but those of the table, as far as it is near to one of them.
	words := strings.Fields(strings.Join(bare, " ") + " open change tail as put new from fail damage")
	known := map[string]int{}
	for _, word := range words {
		known[word]++
	}
	if len(known) != 17 {
		t.Fatalf("%d words", len(known))
	}
	for _, word := range words {
		for _, wrong := range near(word) {
			if known[wrong] == 0 {
				newPair().refuse(t, api.ErrLine, wrong, wrong+" ", wrong+" 0", wrong+" 0 0", wrong+" a int", wrong+" 'x'")
			}
		}
	}
}

// near are the words that are one letter away.
func near(word string) []string {
	var all []string
	for i := range word {
		all = append(all, word[:i]+word[i+1:], word[:i]+string(word[i]^0x20)+word[i+1:], word[:i]+string(word[i]+1)+word[i+1:], word[:i]+" "+word[i:], word[:i]+string(word[i])+word[i:])
	}
	return append(all, word+"\x00", "\ufeff"+word)
}

// longLine is a line with n bytes, and how it begins.
func longLine(begin string, n int, end string) string {
	return begin + many("x", n-len(begin)-len(end)) + end
}

// TestLongLines: P23.1: a line of MaxLine bytes is taken, one of one byte more is refused first, and nothing is done.
func TestLongLines(t *testing.T) {
	p := newPair().talk(t, "open a text", "ok", longLine(`put "`, maxLine, `"`), "ok", "append", "ok")
	p.refuse(t, api.ErrLong, longLine(`put "`, maxLine+1, `"`), longLine(`put "`, maxLine+2, `"`), longLine(`put "`, 100000, `"`))
	p.talk(t, "append", "error 4", "rows", "ok 1 0\n 0 0 \""+many("x", maxLine-6)+"\"", "close", "ok true")
	p.talk(t, longLine("tail '", maxLine, "'"), "ok").refuse(t, api.ErrLong, longLine("tail '", maxLine+1, "'"))
	p = newPair().refuse(t, api.ErrLong, longLine("open a text = \"", maxLine+1, `"`), longLine("as a text = \"", maxLine+1, `"`))
	p.talk(t, longLine("as a text = \"", maxLine, `"`), "ok 0 0", longLine("open a text = \"", maxLine, `"`), "ok")
	p.talk(t, longLine("change ", maxLine, ""), "error 5 at 1017").refuse(t, api.ErrLong, longLine("change ", maxLine+1, ""))

	// Bytes count, and not runes; what is too long is so whatever it is.
	newPair().refuse(t, api.ErrLong, many("\u00e9", 513), many(" ", maxLine+1), many("\n", maxLine+1), "#"+many("x", maxLine), "rows"+many(" ", maxLine-3), "new "+many("0", maxLine))
	newPair().refuse(t, api.ErrLine, many("\u00e9", 512), many(" ", maxLine), many("\n", maxLine), "#"+many("x", maxLine-1), "rows"+many(" ", maxLine-4), "new "+many("0", maxLine-4))
	newPair().talk(t, "put "+many("\u00e9", 510), "error 5 at 0").refuse(t, api.ErrLong, "put "+many("\u00e9", 511))
}

// refusedLines are lines that are refused, whatever the desk is.
func refusedLines() []string {
	return []string{"", "#", "fly", "new 01", "new", "open", "open ", "change ", "put", "append ", "drop now", "sync 1", "start ", "close ", "fail 0", "fail 0 0 0", "damage 0", "damage 0 0 ", "tail ", "rows ", "as ", "from", "from -1", "salvage 0", "bytes ", longLine(`put "`, maxLine+1, `"`), "new 5" + many(" ", maxLine), "drop" + many(" ", maxLine)}
}

// behind are lines that tell how a desk stands: its file, whether that is open and under which schema, its power, its rows that wait.
var behind = []string{"bytes", "rows", "salvage", "from 0", "append", "bytes", "rows", "close", "bytes", "start", "damage 0 0", "open b text", "put \"y\"", "append", "rows", "bytes", "close", "bytes"}

// stands are lines that bring a desk into unlike states.
var stands = [][]string{
	{},
	{"put 1", "put 2"},
	{"open a int"},
	{"open a int", "put 1", "put 2", "append"},
	{"open a int", "put 1", "append", "put 3", "put 4"},
	{"open a int", "put 1", "append", "change a int, b text", "put 3, \"x\""},
	{"open a int", "put 1", "append", "close", "put 7"},
	{"open a int", "put 1", "append", "close", "damage 3 200", "put 7"},
	{"open a int", "put 1", "append", "sync", "fail 3 0", "put 7"},
	{"open a int", "put 1", "append", "sync", "fail 3 2", "put 7", "append"},
	{"new 30", "open a int", "put 1", "append", "put 2"},
	{"tail 'xyz'", "put 5"},
}

// TestRefusedChangesNothing: P23.1: a line that is refused changes nothing.
func TestRefusedChangesNothing(t *testing.T) {
	for _, lines := range stands {
		want := answersOf(t, append(append([]string{}, lines...), behind...))
		for _, line := range refusedLines() {
			p := newPair().do(t, lines...)
			if got, e := p.line(t, line); got != "" || e == api.OK {
				t.Fatalf("%s: %s, %d", brief(line), brief(got), e)
			}
			for i, next := range behind {
				if got, _ := p.line(t, next); got != want[len(lines)+i] {
					t.Fatalf("%q, %s, then %s: %s, want %s", lines, brief(line), next, brief(got), brief(want[len(lines)+i]))
				}
			}
		}
	}
}

// answersOf are the answers of a new desk.
func answersOf(t *testing.T, lines []string) []string {
	t.Helper()
	p := newPair()
	var all []string
	for _, line := range lines {
		answer, _ := p.line(t, line)
		all = append(all, answer)
	}
	return all
}
