package text

import (
	"strconv"

	"gabion/api"
	"gabion/real"
)

func appendType(b []byte, t api.Type) []byte {
	b = append(b, kindWords[t.Kind]...)
	for _, of := range t.Of {
		b = appendType(append(b, '('), of)
		b = append(b, ')')
	}
	return b
}

func appendColumns(b []byte, columns []api.Column) []byte {
	for i, c := range columns {
		if i > 0 {
			b = append(b, between...)
		}
		b = append(b, c.Name...)
		b = appendType(append(b, ' '), c.Type)
		if c.Has {
			b = appendValue(append(b, " = "...), c.Default)
		}
	}
	return b
}

func appendValues(b []byte, values []api.Value) []byte {
	for i, v := range values {
		if i > 0 {
			b = append(b, between...)
		}
		b = appendValue(b, v)
	}
	return b
}

// appendValue is asked of a value that may be.
func appendValue(b []byte, v api.Value) []byte {
	switch v.Kind {
	case api.Bool:
		return strconv.AppendBool(b, v.Int == 1)
	case api.Int:
		return strconv.AppendInt(b, v.Int, 10)
	case api.Float:
		return append(append(b, '~'), real.Print(v.Float)...)
	case api.Text:
		return appendQuoted(b, v.Text, '"')
	case api.Bytes:
		return appendQuoted(b, v.Text, '\'')
	case api.Opt:
		return appendOpt(b, v.Items)
	}
	b = appendValues(append(b, '['), v.Items)
	return append(b, ']')
}

func appendOpt(b []byte, items []api.Value) []byte {
	if len(items) == 0 {
		return append(b, "none"...)
	}
	b = appendValues(append(b, "some("...), items)
	return append(b, ')')
}

// appendQuoted goes byte by byte, not rune by rune, since the bytes of a character beyond 7e are told one by one.
func appendQuoted(b []byte, s string, quote byte) []byte {
	b = append(b, quote)
	for i := range len(s) {
		switch c := s[i]; {
		case c == quote || c == '\\':
			b = append(b, '\\', c)
		case isPlain(rune(c)):
			b = append(b, c)
		default:
			b = append(b, '\\', 'x', hexDigits[c>>4], hexDigits[c&15])
		}
	}
	return append(b, quote)
}
