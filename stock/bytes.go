package stock

import (
	"slices"

	"stairwell/api"
	"stairwell/line"
	"stairwell/mail"
	"stairwell/octet"
	"stairwell/rise"
)

const (
	nextBytes  = 8
	countBytes = 1 // of how many queues, messages, rises there are
	mostBytes  = 8
	lifeBytes  = 8
	stateBytes = 1
	placeBytes = 1
)

// What a message's state has, each if it is so.
const (
	isLent  = 1
	isAgain = 2
)

// Bytes: all of it.
func (s Stock) Bytes() string {
	o := octet.Out{}.Num(s.next, nextBytes).Num(uint64(len(s.rows)), countBytes)
	for _, r := range s.rows {
		o = o.Raw(r.bytes())
	}
	count := uint64(0)
	var rises octet.Out
	for place, x := range s.rises {
		if x.Total() > 0 {
			count++
			rises = rises.Num(uint64(place), placeBytes).Raw(x.Bytes())
		}
	}
	return o.Num(count, countBytes).Raw(rises.String()).String()
}

// bytes: a queue's, with its messages'.
func (r row) bytes() string {
	o := octet.Out{}.Text(r.Name).Num(r.Most, mostBytes).Num(r.Life, lifeBytes).Text(r.Dead)
	o = o.Num(uint64(r.Len()), countBytes)
	for _, one := range r.All() {
		s, _ := mail.Bytes(one.Mail) // no error: it was checked when it came
		o = o.Num(state(one), stateBytes).Raw(s)
	}
	return o.String()
}

// state: how a message stands, as a number.
func state(one line.Item) uint64 {
	var n uint64
	if one.Lent {
		n |= isLent
	}
	if one.Again {
		n |= isAgain
	}
	return n
}

// Of: the stock whose bytes a text is.
func Of(text string, bytes int) (Stock, api.Errno) {
	i := octet.New(text)
	s := New(i.Num(nextBytes), bytes)
	for range i.Num(countBytes) {
		s = s.readRow(i)
	}
	for range i.Num(countBytes) {
		s = s.readRise(i)
	}
	i.Fail(s.checkRoom())
	if i.End() != api.OK || s.Bytes() != text { // what can be read, but would be written otherwise, is no stock's
		return Stock{}, api.ErrForm
	}
	return s, api.OK
}

// readRow: with the queue that comes next, and its messages.
func (s Stock) readRow(i *octet.In) Stock {
	var q Queue
	q.Name = i.Text(api.MaxName)
	q.Most = i.Num(mostBytes)
	q.Life = i.Num(lifeBytes)
	q.Dead = i.Text(api.MaxName)
	s, code := s.Make(q)
	i.Fail(code)
	var items []line.Item
	for range i.Num(countBytes) {
		items = append(items, readItem(i))
	}
	l, code := line.Of(items)
	i.Fail(code)
	if uint64(len(items)) > q.Most || !s.below(items) {
		i.Fail(api.ErrForm)
	}
	return s.with(q.Name, l)
}

// readItem: the message that comes next, and how it stands.
func readItem(i *octet.In) line.Item {
	n := i.Num(stateBytes)
	return line.Item{Mail: mail.Read(i), Lent: n&isLent != 0, Again: n&isAgain != 0}
}

// below: have all of these IDs that were told ahead of the next one?
func (s Stock) below(items []line.Item) bool {
	return s.next == 0 || !slices.ContainsFunc(items, func(one line.Item) bool { return one.Mail.ID >= s.next })
}

// readRise: with the rise that comes next.
func (s Stock) readRise(i *octet.In) Stock {
	place := int(i.Num(placeBytes))
	x := rise.Read(i)
	if !isPlace(place) {
		i.Fail(api.ErrForm)
		return s
	}
	s.rises[place] = x
	return s
}
