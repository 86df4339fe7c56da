package script

// What may stand behind a line's word.
const (
	nothing    = iota // not even a blank
	someText          // a blank, and one byte at least
	anyText           // a blank, and whatever is left
	oneNumber         // a blank, and digits
	twoNumbers        // that twice
)

// A doer does what a line says of what is given behind its word. It tells what the answer has behind ok, or gives up.
type doer func(d *Desk, g given) string

// kindOfLine is what may stand behind a word, and who does such lines.
type kindOfLine struct {
	behind int
	do     doer
}

// table is the document's table of lines, by their words.
func table() map[string]kindOfLine {
	return map[string]kindOfLine{
		"new":     {oneNumber, (*Desk).newFile},
		"open":    {someText, (*Desk).openFile},
		"change":  {someText, (*Desk).changeSchema},
		"put":     {anyText, (*Desk).putRow},
		"append":  {nothing, (*Desk).appendRows},
		"drop":    {nothing, (*Desk).dropRows},
		"sync":    {nothing, (*Desk).syncFile},
		"start":   {nothing, (*Desk).startFile},
		"close":   {nothing, (*Desk).closeFile},
		"fail":    {twoNumbers, (*Desk).failPower},
		"damage":  {twoNumbers, (*Desk).damageByte},
		"tail":    {someText, (*Desk).layTail},
		"rows":    {nothing, (*Desk).tellRows},
		"as":      {someText, (*Desk).tellAs},
		"from":    {oneNumber, (*Desk).tellFrom},
		"salvage": {nothing, (*Desk).tellSaved},
		"bytes":   {nothing, (*Desk).tellBytes},
	}
}
