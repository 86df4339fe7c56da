package script

import (
	"gabion/api"
	"gabion/file"
	"gabion/text"
)

func (d *Desk) newFile(g given) string {
	f, e := file.New(g.n)
	need(e)
	d.file, d.waiting = f, nil
	return ""
}

func (d *Desk) openFile(g given) string {
	need(d.file.Open(parsed(text.ParseSchema(g.text))))
	return ""
}

func (d *Desk) changeSchema(g given) string {
	need(d.file.Change(parsed(text.ParseSchema(g.text))))
	return ""
}

func (d *Desk) putRow(g given) string {
	d.waiting = append(d.waiting, parsed(text.ParseRow(g.text)))
	return ""
}

func (d *Desk) appendRows(given) string {
	need(d.file.Append(d.waiting))
	d.waiting = nil
	return ""
}

func (d *Desk) dropRows(given) string {
	d.waiting = nil
	return ""
}

func (d *Desk) syncFile(given) string {
	need(d.file.Sync())
	return ""
}

func (d *Desk) startFile(given) string {
	need(d.file.Start())
	return ""
}

func (d *Desk) closeFile(given) string {
	indexed, e := d.file.Close()
	need(e)
	return boolText(indexed)
}

func (d *Desk) failPower(g given) string {
	need(d.file.Fail(g.n, g.m))
	return ""
}

func (d *Desk) damageByte(g given) string {
	need(d.file.Damage(g.n, byte(g.m)))
	return ""
}

func (d *Desk) layTail(g given) string {
	v := parsed(text.ParseValue(g.text))
	if v.Kind != api.Bytes {
		giveUp(api.ErrKind)
	}
	need(d.file.Tail([]byte(v.Text)))
	return ""
}

func (d *Desk) tellRows(given) string {
	return toldText(d.file.Rows())
}

func (d *Desk) tellAs(g given) string {
	return toldText(d.file.As(parsed(text.ParseSchema(g.text)), nil))
}

func (d *Desk) tellFrom(g given) string {
	l, e := d.file.From(int64(g.n))
	if e == api.ErrRange || e == api.ErrDown { // no reading began that could have ended
		giveUp(e)
	}
	return toldText(l, e)
}

func (d *Desk) tellSaved(given) string {
	return savedText(d.file.Salvage())
}

func (d *Desk) tellBytes(given) string {
	return bytesText(d.file.Bytes())
}
