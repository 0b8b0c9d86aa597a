package deed

import (
	"strings"

	"stairwell/api"
	"stairwell/head"
	"stairwell/mail"
	"stairwell/octet"
	"stairwell/route"
	"stairwell/stock"
)

const (
	countBytes = 1 // of how many deeds there are
	smallBytes = 1 // of Kind, Sort, How, From, Code, Up and All
	greatBytes = 8 // of Tick, Most, Life, ID and Number
)

// Bytes: its bytes.
func (d Deed) Bytes() (string, api.Errno) {
	if code := d.Check(); code != api.OK {
		return "", code
	}
	o := small(octet.Out{}, d.Kind).Num(d.Tick, greatBytes)
	switch d.Kind {
	case MakeShop:
		o = small(o.Text(d.Shop.Name), d.Shop.Sort).Text(d.Shop.To)
	case MakeQueue:
		o = o.Text(d.Queue.Name).Num(d.Queue.Most, greatBytes).Num(d.Queue.Life, greatBytes).Text(d.Queue.Dead)
	case Bind, Unbind:
		o = writeBind(o, d.Bind)
	case DropShop, DropQueue, Lend:
		o = o.Text(d.Name)
	case Put:
		o = writeMail(o, d.Mail)
	case Settle:
		o = small(o.Text(d.Name).Num(d.ID, greatBytes), d.How)
	case Pull:
		o = writeMail(small(o, d.From).Num(d.Number, greatBytes), d.Mail)
	case Note:
		o = small(o, d.Code).Text(d.Text)
	}
	return o.String(), api.OK
}

// small: and a number of a byte.
func small(o octet.Out, n uint8) octet.Out { return o.Num(uint64(n), smallBytes) }

// writeYes: and yes or no.
func writeYes(o octet.Out, is bool) octet.Out {
	if is {
		return small(o, 1)
	}
	return small(o, 0)
}

// writeBind: and what is told of a binding that may be.
func writeBind(o octet.Out, x route.Bind) octet.Out {
	pairs, _ := head.Bytes(x.Want) // no error: the head was checked
	o = writeYes(o.Text(x.Shop).Text(x.To), x.Up)
	return writeYes(o.Text(x.Key).Raw(pairs), x.All)
}

// writeMail: and a message that may be.
func writeMail(o octet.Out, m api.Mail) octet.Out {
	s, _ := mail.Bytes(m) // no error: it was checked
	return o.Raw(s)
}

// Pack: some deeds' bytes.
func Pack(l ...Deed) (string, api.Errno) {
	if len(l) > Most {
		return "", api.ErrMany
	}
	var all strings.Builder
	all.WriteString(octet.Out{}.Num(uint64(len(l)), countBytes).String())
	for _, d := range l {
		s, code := d.Bytes()
		if code != api.OK {
			return "", code
		}
		all.WriteString(s)
	}
	return all.String(), api.OK
}

// Unpack: the deeds of some bytes.
func Unpack(text string) ([]Deed, api.Errno) {
	i := octet.New(text)
	var l []Deed
	for range i.Num(countBytes) {
		l = append(l, read(i))
	}
	if i.End() != api.OK {
		return nil, api.ErrForm
	}
	if again, code := Pack(l...); code != api.OK || again != text { // what would be written otherwise is no deeds' Pack
		return nil, api.ErrForm
	}
	return l, api.OK
}

// readSmall: the number of a byte that comes next.
func readSmall(i *octet.In) uint8 { return uint8(i.Num(smallBytes)) }

// read: the deed that comes next, whether it may be or not.
func read(i *octet.In) Deed {
	var d Deed
	d.Kind = readSmall(i)
	d.Tick = i.Num(greatBytes)
	switch d.Kind {
	case MakeShop:
		d.Shop = readShop(i)
	case MakeQueue:
		d.Queue = readQueue(i)
	case Bind, Unbind:
		d.Bind = readBind(i)
	case DropShop, DropQueue, Lend:
		d.Name = i.Text(api.MaxName)
	case Put:
		d.Mail = mail.Read(i)
	case Settle:
		d.Name = i.Text(api.MaxName)
		d.ID = i.Num(greatBytes)
		d.How = readSmall(i)
	case Pull:
		d.From = readSmall(i)
		d.Number = i.Num(greatBytes)
		d.Mail = mail.Read(i)
	case Note:
		d.Code = readSmall(i)
		d.Text = i.Text(api.MaxKey)
	}
	return d
}

// readShop: what is told of an exchange.
func readShop(i *octet.In) route.Shop {
	var x route.Shop
	x.Name = i.Text(api.MaxName)
	x.Sort = readSmall(i)
	x.To = i.Text(api.MaxName)
	return x
}

// readQueue: what is told of a queue.
func readQueue(i *octet.In) stock.Queue {
	var q stock.Queue
	q.Name = i.Text(api.MaxName)
	q.Most = i.Num(greatBytes)
	q.Life = i.Num(greatBytes)
	q.Dead = i.Text(api.MaxName)
	return q
}

// readBind: what is told of a binding.
func readBind(i *octet.In) route.Bind {
	var x route.Bind
	x.Shop = i.Text(api.MaxName)
	x.To = i.Text(api.MaxName)
	x.Up = readSmall(i) == 1
	x.Key = i.Text(api.MaxKey)
	x.Want = head.Read(i)
	x.All = readSmall(i) == 1
	return x
}
