package floor

import (
	"cmp"
	"maps"
	"slices"

	"stairwell/api"
	"stairwell/deed"
	"stairwell/method"
	"stairwell/reply"
	"stairwell/rise"
	"stairwell/store"
)

// Turn: all that is done in one. Where the power goes nothing more is done, as the vault refuses it.
func (f *Floor) Turn(tick uint64, rises []rise.Rise) api.Errno {
	if f == nil {
		return api.ErrNil
	}
	f.late(tick)
	f.pull(tick, rises)
	f.doMethods(tick)
	f.handOut(tick)
	f.endClients(tick)
	f.vault.Commit()
	if !f.Ready() {
		f.clients = nil
		return api.ErrPower
	}
	f.release()
	return api.OK
}

// do: deeds are done together.
func (f *Floor) do(l ...deed.Deed) ([]store.Result, api.Errno) {
	results, _, code := f.vault.All(l...)
	return results, code
}

// note: something is noted, if it can be.
func (f *Floor) note(tick uint64, kind uint8, text string) {
	f.do(deed.Deed{Kind: deed.Note, Tick: tick, Code: kind, Text: text})
}

// late: what wasn't handed out in time goes.
func (f *Floor) late(tick uint64) {
	if _, _, over := f.Parts().Stock.Late(tick); over {
		f.do(deed.Deed{Kind: deed.Late, Tick: tick})
	}
}

// pull: messages come from other places.
func (f *Floor) pull(tick uint64, rises []rise.Rise) {
	left := f.work
	for _, from := range f.sources {
		if from < len(rises) {
			left -= f.pullFrom(from, rises[from], tick, left)
		}
	}
}

// pullFrom: at most so many messages come from a place; how many were tried.
func (f *Floor) pullFrom(from int, x rise.Rise, tick uint64, most int) int {
	for tried := range most {
		number, m, ok := x.After(f.Parts().Seen[from])
		if !ok {
			return tried
		}
		d := deed.Deed{Kind: deed.Pull, Tick: tick, From: uint8(from), Number: number, Mail: m}
		if _, code := f.do(d); code != api.OK {
			return tried + 1
		}
	}
	return most
}

// doMethods: the clients' methods are done, one of each that has some, again and again.
func (f *Floor) doMethods(tick uint64) {
	for range f.work {
		c := f.next()
		if c == nil {
			return
		}
		m := c.list[0]
		c.list = c.list[1:]
		f.last = c.number
		f.doMethod(c, m, tick)
	}
}

// next: the client whose method is next; nil, where no list has one.
func (f *Floor) next() *client {
	var least *client
	for _, c := range f.clients {
		switch {
		case len(c.list) == 0:
		case c.number > f.last:
			return c
		case least == nil:
			least = c
		}
	}
	return least
}

// doMethod: a client's method is done.
func (f *Floor) doMethod(c *client, m method.Method, tick uint64) {
	s, told, deeds, code := c.session.Plan(m, tick)
	if code != api.OK {
		c.code, c.list = code, nil
		return
	}
	c.session = s
	c.told = append(c.told, told...)
	if m.Kind == method.Hello {
		f.note(tick, store.Begun, "")
	}
	if len(deeds) == 0 { // all of it is told
		return
	}
	results, code := f.do(deeds...)
	c.session, told = c.session.Told(m, results, code)
	c.told = append(c.told, told...)
	if code == api.ErrFlow || code == api.ErrGrant {
		f.note(tick, store.Refused, m.Name)
	}
}

// handOut: messages of each queue are handed out, by turns.
func (f *Floor) handOut(tick uint64) {
queues:
	for _, q := range f.Parts().Stock.Queues() {
		for range f.give {
			x, ok := f.nextSeat(q.Name)
			if !ok {
				continue queues
			}
			results, code := f.do(deed.Deed{Kind: deed.Lend, Tick: tick, Name: q.Name})
			if code != api.OK {
				continue queues
			}
			f.served[q.Name] = x
			f.sent(x, results[0])
		}
	}
}

// sent: what was lent is handed out to a seat.
func (f *Floor) sent(x seat, lent store.Result) {
	c, _ := f.find(x.client) // it is there, as it was found by its takers
	var r reply.Reply
	c.session, r = c.session.Sent(x.Taker, lent.Item)
	c.told = append(c.told, r)
}

// nextSeat: the one to which a message of a queue is handed out next, if there is one.
func (f *Floor) nextSeat(queue string) (seat, bool) {
	l := f.seats(queue)
	if len(l) == 0 {
		return seat{}, false
	}
	last := f.served[queue] // the zero one, ahead of all that are there, where none was served
	at := slices.IndexFunc(l, func(x seat) bool { return x.greater(last) })
	return l[max(at, 0)], true
}

// seats: those to which a queue's messages may be handed out, by the clients' numbers and then in order.
func (f *Floor) seats(queue string) []seat {
	var l []seat
	for _, c := range f.clients {
		if !c.counts() {
			continue
		}
		for _, x := range c.session.Takers() {
			if x.Queue == queue {
				l = append(l, seat{c.number, x})
			}
		}
	}
	return l
}

// greater: is it, by its client's number, its channel and its tag, than another one?
func (x seat) greater(y seat) bool {
	return cmp.Or(cmp.Compare(x.client, y.client), cmp.Compare(x.Channel, y.Channel), cmp.Compare(x.Tag, y.Tag)) > 0
}

// endClients: the sessions of those that leave end.
func (f *Floor) endClients(tick uint64) {
	for _, c := range f.clients {
		if c.leaves() {
			f.endClient(c, tick)
		}
	}
}

// endClient: a client's session ends.
func (f *Floor) endClient(c *client, tick uint64) {
	begun := c.session.Begun()
	var deeds []deed.Deed
	if c.session, deeds = c.session.End(tick); len(deeds) > 0 {
		f.do(deeds...)
	}
	if begun {
		f.note(tick, store.Over, "")
	}
	if c.code != api.OK {
		c.told = append(c.told, reply.Reply{Kind: reply.Bye, N: uint64(c.code)})
	}
}

// release: what clients were told is released, and those that leave are gone.
func (f *Floor) release() {
	for _, c := range f.clients {
		if len(c.told) > 0 && !c.cut {
			f.out = append(f.out, Out{c.number, reply.Bytes(c.told)})
		}
		c.told = nil
	}
	f.clients = slices.DeleteFunc(f.clients, (*client).leaves)
	f.forget()
}

// forget: who was served last, where all that may be served are greater; then it is as if nobody had been.
func (f *Floor) forget() {
	least := f.came + 1
	if len(f.clients) > 0 {
		least = f.clients[0].number
	}
	maps.DeleteFunc(f.served, func(_ string, x seat) bool { return x.client < least })
}
