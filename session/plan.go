package session

import (
	"slices"

	"stairwell/api"
	"stairwell/chans"
	"stairwell/deed"
	"stairwell/draft"
	"stairwell/method"
	"stairwell/reply"
	"stairwell/route"
	"stairwell/stock"
	"stairwell/store"
)

const (
	version  = 1   // of Hello
	mostSort = 255 // that a deed can tell
	back     = 2   // How: what was lent is ready again
)

// may: may a method come now?
func (s Session) may(m method.Method) api.Errno {
	switch {
	case s.over:
		return api.ErrClosed
	case !s.begun:
		return mayBegin(m)
	case m.Kind == method.Hello || m.Channel == 0:
		return api.ErrOrder
	case m.Channel > api.MaxChannels:
		return api.ErrRange
	case s.isOpen(m.Channel) == (m.Kind == method.Open): // one that is open isn't opened, another one alone is
		return api.ErrOrder
	}
	return api.OK
}

// mayBegin: may a method come first?
func mayBegin(m method.Method) api.Errno {
	switch {
	case m.Kind != method.Hello || m.Channel != 0:
		return api.ErrOrder
	case m.N != version:
		return api.ErrRange
	}
	return api.OK
}

// Plan: what a method asks for.
func (s Session) Plan(m method.Method, tick uint64) (Session, []reply.Reply, []deed.Deed, api.Errno) {
	if code := s.may(m); code != api.OK {
		return s, nil, nil, code
	}
	if m.Kind == method.Hello {
		s.begun = true
		return s, []reply.Reply{{Channel: m.Channel, Kind: reply.Welcome, Name: s.place}}, nil, api.OK
	}
	at := m.Channel - 1
	c, deeds, code := s.channels[at].ask(m, tick)
	var told []reply.Reply
	if len(deeds) == 0 {
		c, told = c.told(m, nil, code)
	}
	s.channels[at] = c
	return s, told, deeds, api.OK
}

// Told: what comes of a method's deeds.
func (s Session) Told(m method.Method, l []store.Result, e api.Errno) (Session, []reply.Reply) {
	if !s.isOpen(m.Channel) {
		return s, nil
	}
	var told []reply.Reply
	at := m.Channel - 1
	s.channels[at], told = s.channels[at].told(m, l, e)
	return s, told
}

// ask: the deeds that a method asks for; where it asks for none, OK, or the error by which it isn't done.
func (c channel) ask(m method.Method, tick uint64) (channel, []deed.Deed, api.Errno) {
	switch m.Kind {
	case method.Open:
		return channel{chans.New(), true}, nil, api.OK
	case method.Close:
		return c, c.back(tick), api.OK
	case method.Put:
		return c.put(m, tick)
	case method.Get:
		if c.Room() == 0 {
			return c, nil, api.ErrFull
		}
	case method.Settle:
		return c.settle(m, tick)
	case method.Credit, method.Take, method.Leave, method.Sure, method.Draft, method.Undo:
		changed, code := c.change(m)
		return changed, nil, code
	case method.Commit:
		l, code := c.Held(tick)
		return c, l, code
	}
	return c, []deed.Deed{deedOf(m, tick)}, api.OK
}

// deedOf: the deed of a method that asks for the same one on each channel.
func deedOf(m method.Method, tick uint64) deed.Deed {
	d := deed.Deed{Tick: tick}
	switch m.Kind {
	case method.MakeShop:
		d.Kind, d.Shop = deed.MakeShop, route.Shop{Name: m.Name, Sort: uint8(min(m.N, mostSort)), To: m.Other}
	case method.DropShop:
		d.Kind, d.Name = deed.DropShop, m.Name
	case method.MakeQueue:
		d.Kind, d.Queue = deed.MakeQueue, stock.Queue{Name: m.Name, Most: m.N, Life: m.M, Dead: m.Other}
	case method.DropQueue:
		d.Kind, d.Name = deed.DropQueue, m.Name
	case method.Bind, method.Lift:
		d.Kind, d.Bind = deed.Bind, binding(m)
	case method.Unbind, method.Unlift:
		d.Kind, d.Bind = deed.Unbind, binding(m)
	case method.Get:
		d.Kind, d.Name = deed.Lend, m.Name
	}
	return d
}

// binding: that of a method; to a place, where it lifts.
func binding(m method.Method) route.Bind {
	up := m.Kind == method.Lift || m.Kind == method.Unlift
	return route.Bind{Shop: m.Name, To: m.Other, Up: up, Key: m.Key, Want: slices.Clone(m.Head), All: m.Yes}
}

// put: a Put is done, or held. Where it is held its life begins when it is done.
func (c channel) put(m method.Method, tick uint64) (channel, []deed.Deed, api.Errno) {
	d := deed.Deed{Kind: deed.Put, Mail: api.Mail{Shop: m.Name, Key: m.Key, Head: slices.Clone(m.Head), Body: m.Body, Due: m.M}}
	if c.Drafts() {
		return c.hold(d)
	}
	c.Chan, _ = c.Put() // its number is told behind it
	d.Tick, d.Mail.Due = tick, draft.Life(tick, m.M)
	return c, []deed.Deed{d}, api.OK
}

// settle: Settles are done, or held.
func (c channel) settle(m method.Method, tick uint64) (channel, []deed.Deed, api.Errno) {
	l, code := c.Settles(m.N, m.M, m.Yes)
	if code != api.OK {
		return c, nil, code
	}
	if c.Drafts() {
		return c.hold(l...)
	}
	for at := range l {
		l[at].Tick = tick
	}
	return c, l, api.OK
}

// hold: deeds are held, so that none is asked for.
func (c channel) hold(l ...deed.Deed) (channel, []deed.Deed, api.Errno) {
	var code api.Errno
	c.Chan, code = c.Hold(l...)
	return c, nil, code
}

// back: the Settles by which all that is unsettled is ready again.
func (c channel) back(tick uint64) []deed.Deed {
	var l []deed.Deed
	for _, x := range c.Unsettled() {
		l = append(l, deed.Deed{Kind: deed.Settle, Tick: tick, Name: x.Queue, ID: x.ID, How: back})
	}
	return l
}

// change: what a channel is asked for alone, without deeds.
func (c channel) change(m method.Method) (channel, api.Errno) {
	var code api.Errno
	switch m.Kind {
	case method.Credit:
		c.Chan, code = c.Credit(m.N)
	case method.Take:
		c.Chan, code = c.Take(m.N, m.Name)
	case method.Leave:
		c.Chan, code = c.Leave(m.N)
	case method.Sure:
		c.Chan, code = c.Sure()
	case method.Draft:
		c.Chan, code = c.Draft()
	case method.Undo:
		c.Chan, code = c.Undo()
	}
	return c, code
}

// told: what a method comes to, by what came of its deeds, and what is told of it.
func (c channel) told(m method.Method, l []store.Result, e api.Errno) (channel, []reply.Reply) {
	r := reply.Reply{Channel: m.Channel, Kind: reply.Done}
	if e != api.OK {
		r.Kind, r.N = reply.Refused, uint64(e)
	}
	switch m.Kind {
	case method.Put:
		return c, c.toldPut(r, e)
	case method.Get:
		return c.toldGet(m, l, r, e)
	case method.Close:
		if e == api.OK {
			c = channel{}
		}
	case method.Settle:
		c = c.settled(m, e)
	case method.Commit:
		c = c.committed(e)
	}
	return c, []reply.Reply{r}
}

// toldPut: what is told of a Put, where of other methods r is told.
func (c channel) toldPut(r reply.Reply, e api.Errno) []reply.Reply {
	number := c.Number()
	switch {
	case number > 0 && e == api.OK:
		r.Kind, r.N = reply.Kept, number
	case number > 0:
		r.Kind, r.N, r.M = reply.Lost, number, uint64(e)
	case e == api.OK:
		return nil
	}
	return []reply.Reply{r}
}

// toldGet: what a Get comes to, and what is told of it, where of other methods r is told.
func (c channel) toldGet(m method.Method, l []store.Result, r reply.Reply, e api.Errno) (channel, []reply.Reply) {
	switch {
	case e == api.OK && len(l) > 0:
		c, r = c.lend(Taker{m.Channel, reply.GetTag, m.Name}, l[0].Item)
	case e == api.ErrEmpty:
		r.Kind, r.N = reply.Nothing, 0
	}
	return c, []reply.Reply{r}
}

// settled: the channel behind a Settle. What it asked for is what it would ask for yet.
func (c channel) settled(m method.Method, e api.Errno) channel {
	if e == api.OK && !c.Drafts() {
		l, _ := c.Settles(m.N, m.M, m.Yes)
		c.Chan = c.Gone(l...)
	}
	return c
}

// committed: the channel behind a Commit, whose draft is undone whatever came of it.
func (c channel) committed(e api.Errno) channel {
	if e == api.OK {
		l, _ := c.Held(0) // what is gone hangs on no tick
		c.Chan = c.Gone(l...)
	}
	c.Chan, _ = c.Undo() // where it doesn't draft nothing changes
	return c
}
