package text

import (
	"strconv"
	"strings"

	"gabion/api"
	"gabion/real"
)

// A fault is what a parser gives up with: why, and where.
type fault struct {
	e  api.Errno
	at int
}

// A parser reads a text from the left. At the first thing that is wrong it gives up by a panic with a fault.
type parser struct {
	s  string
	at int
}

// parse is what read makes of the whole text, if check takes it.
func parse[T any](s string, read func(p *parser) T, check func(told T) api.Errno) (told T, e api.Errno, at int) {
	defer func() {
		if wrong := recover(); wrong != nil {
			var nothing T
			given := wrong.(fault)
			told, e, at = nothing, given.e, given.at
		}
	}()
	p := &parser{s: s}
	told = read(p)
	p.need(p.at == len(s), api.ErrForm)
	p.at = 0 // what is wrong with the whole has no other place
	e = check(told)
	p.need(e == api.OK, e)
	return told, api.OK, 0
}

func (p *parser) wholeType() api.Type {
	return p.typeAt(1)
}

func (p *parser) wholeSchema() api.Schema {
	return api.Schema{Columns: several(p, p.column)}
}

func (p *parser) wholeValue() api.Value {
	return p.valueAt(1)
}

func (p *parser) wholeRow() api.Row {
	if p.s == "" {
		return api.Row{}
	}
	return api.Row{Values: p.values(1)}
}

// need gives up where the parser stands.
func (p *parser) need(holds bool, e api.Errno) {
	if !holds {
		panic(fault{e, p.at})
	}
}

func (p *parser) stands(c byte) bool {
	return p.at < len(p.s) && p.s[p.at] == c
}

// pass goes byte by byte, so that it gives up at the one that is not as it must be.
func (p *parser) pass(must string) {
	for i := range len(must) {
		p.need(p.stands(must[i]), api.ErrForm)
		p.at++
	}
}

// longest is the longest row of what belongs to it. The parser stays ahead of it, where a fault of the row is told.
func (p *parser) longest(belongs func(r rune) bool) string {
	left := p.s[p.at:]
	for at, r := range left {
		if !belongs(r) {
			return left[:at]
		}
	}
	return left
}

// several reads one or more.
func several[T any](p *parser, one func() T) []T {
	all := []T{one()}
	for p.stands(between[0]) {
		p.pass(between)
		all = append(all, one())
	}
	return all
}

func (p *parser) column() api.Column {
	name := p.longest(inName)
	p.need(name != "", api.ErrForm)
	p.at += len(name)
	p.pass(" ")
	// A name that is a piece of the text would keep all of it in memory.
	c := api.Column{Name: strings.Clone(name), Type: p.typeAt(1)}
	if p.stands(' ') {
		p.pass(" = ")
		c.Has, c.Default = true, p.valueAt(1)
	}
	return c
}

func (p *parser) typeAt(depth int) api.Type {
	p.need(depth <= api.MaxDepth, api.ErrDeep)
	word := p.longest(isLetter)
	t := api.Type{Kind: kindOf(word)}
	p.need(t.Kind != api.None, api.ErrForm)
	p.at += len(word)
	if t.Kind == api.Opt || t.Kind == api.List {
		p.pass("(")
		t.Of = []api.Type{p.typeAt(depth + 1)}
		p.pass(")")
	}
	return t
}

func (p *parser) values(depth int) []api.Value {
	return several(p, func() api.Value { return p.valueAt(depth) })
}

func (p *parser) valueAt(depth int) api.Value {
	p.need(depth <= api.MaxDepth, api.ErrDeep)
	p.need(p.at < len(p.s), api.ErrForm)
	switch c := rune(p.s[p.at]); {
	case isLetter(c):
		return p.wordAt(depth)
	case inInt(c):
		return p.number()
	case c == '~':
		return p.float()
	case c == '"':
		return api.Value{Kind: api.Text, Text: p.quoted(`"`)}
	case c == '\'':
		return api.Value{Kind: api.Bytes, Text: p.quoted(`'`)}
	}
	return p.listAt(depth)
}

// wordAt reads a Bool or an Opt.
func (p *parser) wordAt(depth int) api.Value {
	word := p.longest(isLetter)
	v := api.Value{Kind: api.Bool}
	switch word {
	case "true":
		v.Int = 1
	case "false":
	case "none", "some":
		v.Kind = api.Opt
	default:
		p.need(false, api.ErrForm)
	}
	p.at += len(word)
	if word == "some" {
		p.pass("(")
		v.Items = []api.Value{p.valueAt(depth + 1)}
		p.pass(")")
	}
	return v
}

func (p *parser) number() api.Value {
	digits := p.longest(inInt)
	n, err := strconv.ParseInt(digits, 10, 64)
	// ParseInt takes more than the one text of each Int.
	p.need(err == nil && strconv.FormatInt(n, 10) == digits, api.ErrForm)
	p.at += len(digits)
	return api.Value{Kind: api.Int, Int: n}
}

func (p *parser) float() api.Value {
	p.pass("~")
	digits := p.longest(inFloat)
	x, e := real.Parse(digits)
	p.need(e == api.OK, api.ErrForm)
	p.at += len(digits)
	return api.Value{Kind: api.Float, Float: x}
}

func (p *parser) listAt(depth int) api.Value {
	p.pass("[")
	v := api.Value{Kind: api.List}
	if !p.stands(']') {
		v.Items = p.values(depth + 1)
	}
	p.pass("]")
	return v
}

func (p *parser) quoted(quote string) string {
	standsForItself := func(r rune) bool {
		return isPlain(r) && r != '\\' && r != rune(quote[0])
	}
	p.pass(quote)
	var b []byte
	for {
		plain := p.longest(standsForItself)
		b = append(b, plain...)
		p.at += len(plain)
		if !p.stands('\\') {
			break
		}
		b = append(b, p.escaped(quote[0]))
	}
	p.pass(quote)
	return string(b)
}

// escaped gives up at the backslash, wherever behind it something is wrong.
func (p *parser) escaped(quote byte) byte {
	said := p.s[p.at+1:]
	if said != "" && (said[0] == '\\' || said[0] == quote) {
		p.at += 2
		return said[0]
	}
	c, ok := hexByte(said)
	p.need(ok, api.ErrForm)
	p.at += 4
	return c
}

// hexByte is the byte that x and two digits say, if it is told so.
func hexByte(said string) (byte, bool) {
	if len(said) < 3 || said[0] != 'x' {
		return 0, false
	}
	high, low := strings.IndexByte(hexDigits, said[1]), strings.IndexByte(hexDigits, said[2])
	if high < 0 || low < 0 {
		return 0, false
	}
	c := byte(high<<4 | low)
	return c, !isPlain(rune(c))
}
