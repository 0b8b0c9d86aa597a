package store

import (
	"stairwell/api"
	"stairwell/mail"
	"stairwell/route"
	"stairwell/slots"
)

// gone is a message that a queue has no more.
type gone struct {
	queue string
	mail  api.Mail
}

// sent is what comes of a sending: to how many queues and places it went, and what was pushed out of queues by it.
type sent struct {
	count int
	out   []gone
}

// put: a message is sent to its Shop, and what that pushes out is buried.
func (s Store) put(tick uint64, m api.Mail) (Store, Result, api.Errno) {
	s, all, code := s.send(tick, m)
	if code != api.OK {
		return s, Result{}, code
	}
	s, lost := s.bury(tick, all.out)
	return s, Result{Count: all.count, Lost: lost}, api.OK
}

// putOn: the same, with one Hop more.
func (s Store) putOn(tick uint64, m api.Mail) (Store, Result, api.Errno) {
	m, code := moved(m)
	if code != api.OK {
		return s, Result{}, code
	}
	return s.put(tick, m)
}

// moved: a message with one Hop more, if it may have that.
func moved(m api.Mail) (api.Mail, api.Errno) {
	if m.Hops >= api.MaxHops {
		return m, api.ErrRange
	}
	m.Hops++
	return m, api.OK
}

// send: a message goes to all to which its Shop leads; beside an error it went to none.
func (s Store) send(tick uint64, m api.Mail) (Store, sent, api.Errno) {
	queues, places, code := s.parts.Book.Leads(m.Shop, m.Key, m.Head)
	if code != api.OK {
		return s, sent{}, code
	}
	more := s
	var all sent
	for _, name := range queues {
		if more, all, code = more.sendTo(name, tick, m, all); code != api.OK {
			return s, sent{}, code
		}
	}
	for _, name := range places {
		if more, code = more.sendUp(name, tick, m); code != api.OK {
			return s, sent{}, code
		}
		all.count++
	}
	return more, all, api.OK
}

// sendTo: a message goes to a queue, if that is there; what comes of that stands behind what came ahead.
func (s Store) sendTo(name string, tick uint64, m api.Mail, ahead sent) (Store, sent, api.Errno) {
	q, there := s.parts.Stock.Queue(name)
	if !there {
		return s, ahead, api.OK
	}
	m.Due = sooner(m.Due, tick, q.Life)
	more, _, out, code := s.parts.Stock.Put(name, m)
	if code != api.OK {
		return s, ahead, code
	}
	s.parts.Stock = more
	ahead.count++
	if !mail.Same(out, api.Mail{}) {
		ahead.out = append(ahead.out, gone{name, out})
	}
	return s, ahead, api.OK
}

// sooner: when a message is gone that has a Due of its own, in a queue of that Life.
func sooner(due, tick, life uint64) uint64 {
	over := tick + life
	switch {
	case life == 0, over < tick: // it lives as long as it likes, or beyond all ticks
		return due
	case due == 0:
		return over
	}
	return min(due, over)
}

// sendUp: a message goes to a place.
func (s Store) sendUp(name string, tick uint64, m api.Mail) (Store, api.Errno) {
	to := s.policy.Find(name)
	if x, _ := s.parts.Book.Shop(m.Shop); x.Sort == route.Release {
		var code api.Errno
		if s, code = s.spend(tick, to); code != api.OK {
			return s, code
		}
		s = s.note(tick, Released, name)
	}
	m.ID = 0
	var code api.Errno
	s.parts.Stock, code = s.parts.Stock.Raise(to, m)
	return s, code
}

// spend: one more is released to a place, if something is left of the grant.
func (s Store) spend(tick uint64, to int) (Store, api.Errno) {
	number := s.policy.Grant(s.place, to)
	if number < 0 || number >= len(s.parts.Spent) {
		return s, api.ErrGrant
	}
	now := Spent{Round: slots.Round(s.policy, tick)}
	if last := s.parts.Spent[number]; last.Round == now.Round {
		now.Count = last.Count
	}
	if now.Count >= s.policy.Grants[number].Budget {
		return s, api.ErrGrant
	}
	now.Count++
	s.parts.Spent[number] = now
	return s, api.OK
}

// bury: messages that are gone are buried, one by one, behind them what that pushes out; and how many were lost.
func (s Store) bury(tick uint64, waiting []gone) (Store, int) {
	lost := 0
	for len(waiting) > 0 {
		one := waiting[0]
		waiting = waiting[1:]
		q, _ := s.parts.Stock.Queue(one.queue)
		if q.Dead == "" {
			continue
		}
		more, out, code := s.sendDead(q.Dead, tick, one.mail)
		if code != api.OK {
			lost++
			s = s.note(tick, Lost, one.queue)
			continue
		}
		s = more
		waiting = append(waiting, out...)
	}
	return s, lost
}

// sendDead: a message that is gone is sent to an exchange: that is its Shop then. And what is pushed out by that.
func (s Store) sendDead(shop string, tick uint64, m api.Mail) (Store, []gone, api.Errno) {
	m, code := moved(m)
	if code != api.OK {
		return s, nil, code
	}
	m.Shop, m.Due = shop, 0
	s, all, code := s.send(tick, m)
	return s, all.out, code
}
