package session

import (
	"math"
	"slices"
	"strings"
	"testing"

	"stairwell/api"
	"stairwell/chans"
	"stairwell/deed"
	"stairwell/draft"
	"stairwell/frame"
	"stairwell/line"
	"stairwell/method"
	"stairwell/reply"
	"stairwell/route"
	"stairwell/stock"
	"stairwell/store"
)

// most is the last tick, and the greatest number.
const most = math.MaxUint64

// side is a channel as the document's words have it.
type side struct {
	open, sure bool
	c          chans.Chan
}

// plain is a session as the document's words have it; channel 0, which no session has, is never open. What was asked for is kept
// till it is told what came of it.
type plain struct {
	place       string
	begun, over bool
	sides       [5]side
	asked       []deed.Deed
}

// may: by which error a method may not come.
func (p plain) may(m method.Method) api.Errno {
	if p.over {
		return api.ErrClosed
	}
	if !p.begun {
		if m.Kind != 0 || m.Channel != 0 {
			return api.ErrOrder
		}
		if m.N != 1 {
			return api.ErrRange
		}
		return api.OK
	}
	if m.Kind == 0 {
		return api.ErrOrder
	}
	if m.Channel == 0 {
		return api.ErrOrder
	}
	if m.Channel > 4 {
		return api.ErrRange
	}
	if m.Kind == 1 && p.sides[m.Channel].open || m.Kind != 1 && !p.sides[m.Channel].open {
		return api.ErrOrder
	}
	return api.OK
}

// done: what is told of most methods; of an error Refused.
func done(m method.Method, e api.Errno) []reply.Reply {
	if e == api.OK {
		return []reply.Reply{{Channel: m.Channel, Kind: 1}}
	}
	return []reply.Reply{{Channel: m.Channel, Kind: 2, N: uint64(e)}}
}

// backs: Settles, How 2, of all that is unsettled.
func (x side) backs(tick uint64) []deed.Deed {
	var l []deed.Deed
	for _, y := range x.c.Unsettled() {
		l = append(l, deed.Deed{Kind: 8, Tick: tick, Name: y.Queue, ID: y.ID, How: 2})
	}
	return l
}

// simple: the deed that a method asks for which hangs on nothing but it.
func simple(m method.Method, tick uint64) deed.Deed {
	bind := route.Bind{Shop: m.Name, To: m.Other, Key: m.Key, Want: m.Head, All: m.Yes}
	lift := bind
	lift.Up = true
	sort := uint8(255)
	if m.N < 255 {
		sort = uint8(m.N)
	}
	sent := api.Mail{Shop: m.Name, Key: m.Key, Head: m.Head, Body: m.Body, Due: draft.Life(tick, m.M)}
	d := map[uint8]deed.Deed{
		3:  {Kind: 0, Shop: route.Shop{Name: m.Name, Sort: sort, To: m.Other}},
		4:  {Kind: 1, Name: m.Name},
		5:  {Kind: 2, Queue: stock.Queue{Name: m.Name, Most: m.N, Life: m.M, Dead: m.Other}},
		6:  {Kind: 3, Name: m.Name},
		7:  {Kind: 4, Bind: bind},
		8:  {Kind: 5, Bind: bind},
		9:  {Kind: 4, Bind: lift},
		10: {Kind: 5, Bind: lift},
		11: {Kind: 6, Mail: sent},
		15: {Kind: 7, Name: m.Name},
	}[m.Kind]
	d.Tick = tick
	return d
}

// alone: what comes of a method that asks for no deed, whatever is there.
func (x *side) alone(m method.Method) api.Errno {
	var code api.Errno
	switch m.Kind {
	case 12:
		x.c, code = x.c.Credit(m.N)
	case 13:
		x.c, code = x.c.Take(m.N, m.Name)
	case 14:
		x.c, code = x.c.Leave(m.N)
	case 17:
		x.c, code = x.c.Sure()
		x.sure = x.sure || code == api.OK
	case 18:
		x.c, code = x.c.Draft()
	case 20:
		x.c, code = x.c.Undo()
	}
	return code
}

// plan: what a method asks for, and is told at once.
func (p plain) plan(m method.Method, tick uint64) (plain, []reply.Reply, []deed.Deed, api.Errno) {
	if code := p.may(m); code != api.OK {
		return p, nil, nil, code
	}
	if m.Kind == 0 {
		p.begun = true
		return p, []reply.Reply{{Kind: 0, Name: p.place}}, nil, api.OK
	}
	p.asked = nil
	x := &p.sides[m.Channel]
	var code api.Errno
	switch m.Kind {
	case 1:
		*x = side{open: true, c: chans.New()}
	case 2:
		p.asked = x.backs(tick)
		x.open = len(p.asked) > 0
	case 11:
		if x.c.Drafts() {
			held := simple(m, 0)
			held.Mail.Due = m.M
			if x.c, code = x.c.Hold(held); code == api.OK {
				return p, nil, nil, api.OK
			}
			break
		}
		x.c, _ = x.c.Put()
		p.asked = []deed.Deed{simple(m, tick)}
	case 15:
		if x.c.Room() == 0 {
			code = api.ErrFull
			break
		}
		p.asked = []deed.Deed{simple(m, tick)}
	case 16:
		code = p.settle(x, m, tick)
	case 19:
		p.asked, code = x.c.Held(tick)
	case 3, 4, 5, 6, 7, 8, 9, 10:
		p.asked = []deed.Deed{simple(m, tick)}
	default:
		code = x.alone(m)
	}
	if len(p.asked) > 0 {
		return p, nil, slices.Clone(p.asked), api.OK
	}
	return p, done(m, code), nil, api.OK
}

// settle: Settles are asked for, or held.
func (p *plain) settle(x *side, m method.Method, tick uint64) api.Errno {
	l, code := x.c.Settles(m.N, m.M, m.Yes)
	if code != api.OK {
		return code
	}
	if x.c.Drafts() {
		x.c, code = x.c.Hold(l...)
		return code
	}
	for _, d := range l {
		d.Tick = tick
		p.asked = append(p.asked, d)
	}
	return api.OK
}

// told: what is told behind the deeds.
func (p plain) told(m method.Method, l []store.Result, e api.Errno) (plain, []reply.Reply) {
	x := &p.sides[m.Channel]
	switch m.Kind {
	case 2:
		x.open = e != api.OK
	case 11:
		switch {
		case x.sure && e == api.OK:
			return p, []reply.Reply{{Channel: m.Channel, Kind: 5, N: x.c.Number()}}
		case x.sure:
			return p, []reply.Reply{{Channel: m.Channel, Kind: 6, N: x.c.Number(), M: uint64(e)}}
		case e == api.OK:
			return p, nil
		}
	case 15:
		if e == api.OK {
			return p.sent(Taker{m.Channel, 256, m.Name}, l[0].Item)
		}
		if e == api.ErrEmpty {
			return p, []reply.Reply{{Channel: m.Channel, Kind: 4}}
		}
	case 16, 19:
		if e == api.OK {
			x.c = x.c.Gone(p.asked...)
		}
		if m.Kind == 19 {
			x.c, _ = x.c.Undo()
		}
	}
	return p, done(m, e)
}

// sent: a message is handed out on a channel that is open.
func (p plain) sent(to Taker, x line.Item) (plain, []reply.Reply) {
	y := &p.sides[to.Channel]
	y.c = y.c.Lend(chans.Lent{ID: x.Mail.ID, Queue: to.Queue})
	only := api.Mail{Shop: x.Mail.Shop, Key: x.Mail.Key, Head: x.Mail.Head, Body: x.Mail.Body}
	return p, []reply.Reply{{Channel: to.Channel, Kind: 3, N: x.Mail.ID, M: to.Tag, Yes: x.Again, Mail: only}}
}

// takers: of channels that have room.
func (p plain) takers() []Taker {
	var l []Taker
	for number, x := range p.sides {
		if x.open && x.c.Room() > 0 {
			for _, y := range x.c.Takers() {
				l = append(l, Taker{uint8(number), y.Tag, y.Queue})
			}
		}
	}
	return l
}

// end: it is over.
func (p plain) end(tick uint64) (plain, []deed.Deed) {
	var l []deed.Deed
	for _, x := range p.sides {
		if x.open {
			l = append(l, x.backs(tick)...)
		}
	}
	return plain{place: p.place, begun: p.begun, over: true}, l
}

// each: a method of each kind, that may be.
func each(channel uint8) []method.Method {
	h := []api.Pair{{Key: "n", Num: -1}, {Key: "t", Kind: 1, Text: "x"}}
	l := []method.Method{
		{Kind: method.Hello, N: 1}, {Kind: method.Open}, {Kind: method.Close},
		{Kind: method.MakeShop, Name: "a", N: 4, Other: "low"}, {Kind: method.DropShop, Name: "a"},
		{Kind: method.MakeQueue, Name: "q", N: 9, M: 8, Other: "dead"}, {Kind: method.DropQueue, Name: "q"},
		{Kind: method.Bind, Name: "a", Other: "q", Key: "k.#", Head: h, Yes: true}, {Kind: method.Unbind, Name: "a", Other: "q"},
		{Kind: method.Lift, Name: "a", Other: "up", Key: "*"}, {Kind: method.Unlift, Name: "a", Other: "up", Head: h, Yes: true},
		{Kind: method.Put, Name: "a", Key: "k.l", Head: h, M: 3, Body: "body"}, {Kind: method.Credit, N: 3},
		{Kind: method.Take, Name: "q", N: 7}, {Kind: method.Leave, N: 7}, {Kind: method.Get, Name: "q"}, {Kind: method.Settle, N: 1, M: 1, Yes: true},
		{Kind: method.Sure}, {Kind: method.Draft}, {Kind: method.Commit}, {Kind: method.Undo},
	}
	for at := range l {
		l[at].Channel = channel
	}
	return l
}

// results: what deeds may come to.
func results(l []deed.Deed) []store.Result {
	var all []store.Result
	for at := range l {
		m := api.Mail{ID: 900 + uint64(at), Shop: "a", Key: "k", Head: []api.Pair{{Key: "n", Num: 5}}, Body: "b", Due: 77, Hops: 3}
		all = append(all, store.Result{Item: line.Item{Mail: m, Lent: true, Again: at%2 == 0}, Count: 1})
	}
	return all
}

// sameReplies: are two lists of replies the same?
func sameReplies(a, b []reply.Reply) bool { return slices.EqualFunc(a, b, reply.Same) }

// sameDeeds: are two lists of deeds the same?
func sameDeeds(a, b []deed.Deed) bool { return slices.EqualFunc(a, b, deed.Same) }

// tells: a session tells what it should of itself, and of each kind of method on each channel.
func tells(t *testing.T, what string, s Session, p plain) {
	t.Helper()
	shows(t, what, s, p)
	for _, channel := range []uint8{0, 1, 2, 3, 4, 5, 255} {
		for _, m := range each(channel) {
			asks(t, what, s, p, m)
		}
	}
}

// shows: a session tells what it should of itself alone.
func shows(t *testing.T, what string, s Session, p plain) {
	t.Helper()
	if s.Begun() != p.begun || s.Over() != p.over {
		t.Fatalf("%s: %v, %v, wanted %v, %v", what, s.Begun(), s.Over(), p.begun, p.over)
	}
	if got, want := s.Takers(), p.takers(); !slices.Equal(got, want) {
		t.Fatalf("%s: takers %v, wanted %v", what, got, want)
	}
	end, got := s.End(9)
	if _, want := p.end(9); !sameDeeds(got, want) || !end.Over() {
		t.Fatalf("%s: its end is %+v, wanted %+v", what, got, want)
	}
}

// asks: a method asks for what it should, and is told so, behind OK and behind errors.
func asks(t *testing.T, what string, s Session, p plain, m method.Method) {
	t.Helper()
	more, told, deeds, code := s.Plan(m, 5)
	q, wanted, asked, e := p.plan(m, 5)
	if code != e || !sameReplies(told, wanted) || !sameDeeds(deeds, asked) {
		t.Fatalf("%s: %+v: %+v, %+v, %d, wanted %+v, %+v, %d", what, m, told, deeds, code, wanted, asked, e)
	}
	shows(t, what, more, q)
	if len(deeds) == 0 {
		return
	}
	for _, e := range []api.Errno{api.OK, api.ErrNone, api.ErrEmpty, api.ErrGrant} {
		var l []store.Result
		if e == api.OK {
			l = results(deeds)
		}
		behind, told := more.Told(m, l, e)
		r, wanted := q.told(m, l, e)
		if !sameReplies(told, wanted) {
			t.Fatalf("%s: %+v of %d: told %+v, wanted %+v", what, m, e, told, wanted)
		}
		shows(t, what, behind, r)
	}
}

// twin is a session, and what it should be.
type twin struct {
	s Session
	p plain
}

// fresh: a new one.
func fresh() twin { return twin{New("low"), plain{place: "low"}} }

// begun: one that has begun, with some channels that are open.
func begun(t *testing.T, channels ...uint8) twin {
	t.Helper()
	w := fresh().says(t, method.Method{Kind: method.Hello, N: 1})
	for _, channel := range channels {
		w = w.says(t, method.Method{Channel: channel, Kind: method.Open})
	}
	return w
}

// plan: what a method asks for, and is told at once; what was there stays as it was.
func (w twin) plan(t *testing.T, m method.Method, tick uint64) (twin, []reply.Reply, []deed.Deed, api.Errno) {
	t.Helper()
	if code := m.Check(); code != api.OK {
		t.Fatalf("%+v may not be: %d", m, code)
	}
	s, told, deeds, code := w.s.Plan(m, tick)
	p, wanted, asked, e := w.p.plan(m, tick)
	if code != e || !sameReplies(told, wanted) || !sameDeeds(deeds, asked) {
		t.Fatalf("%+v: %+v, %+v, %d, wanted %+v, %+v, %d", m, told, deeds, code, wanted, asked, e)
	}
	tells(t, "planned", s, p)
	tells(t, "as it was", w.s, w.p)
	for _, r := range told {
		if code := r.Check(); code != api.OK {
			t.Fatalf("%+v: told %+v, which may not be: %d", m, r, code)
		}
	}
	return twin{s, p}, told, deeds, code
}

// told: what a method is told behind its deeds; what was there stays as it was.
func (w twin) told(t *testing.T, m method.Method, l []store.Result, e api.Errno) (twin, []reply.Reply) {
	t.Helper()
	s, told := w.s.Told(m, l, e)
	p, wanted := w.p.told(m, l, e)
	if !sameReplies(told, wanted) {
		t.Fatalf("%+v of %d: told %+v, wanted %+v", m, e, told, wanted)
	}
	tells(t, "told", s, p)
	tells(t, "as it was", w.s, w.p)
	return twin{s, p}, told
}

// asked: all that comes of a method, where its deeds come to e.
func (w twin) asked(t *testing.T, m method.Method, tick uint64, e api.Errno) (twin, []reply.Reply, []deed.Deed, api.Errno) {
	t.Helper()
	w, told, deeds, code := w.plan(t, m, tick)
	if len(deeds) == 0 {
		return w, told, nil, code
	}
	if len(told) > 0 {
		t.Fatalf("%+v: told ahead of its deeds: %+v", m, told)
	}
	var l []store.Result
	if e == api.OK {
		l = results(deeds)
	}
	w, told = w.told(t, m, l, e)
	return w, told, deeds, code
}

// says: methods come, and are done.
func (w twin) says(t *testing.T, l ...method.Method) twin {
	t.Helper()
	for _, m := range l {
		var told []reply.Reply
		var code api.Errno
		if w, told, _, code = w.asked(t, m, 3, api.OK); code != api.OK {
			t.Fatalf("%+v: %d", m, code)
		}
		for _, r := range told {
			if r.Kind == reply.Refused {
				t.Fatalf("%+v: refused, %d", m, r.N)
			}
		}
	}
	return w
}

// refuses: a method may not come.
func (w twin) refuses(t *testing.T, what string, m method.Method, want api.Errno) {
	t.Helper()
	more, told, deeds, code := w.plan(t, m, 5)
	if code != want || len(told) != 0 || len(deeds) != 0 {
		t.Errorf("%s: %d, %+v, %+v, wanted %d", what, code, told, deeds, want)
	}
	tells(t, what, more.s, w.p)
}

// expects: a method asks for just these deeds, at the tick 5, and is told that, where they come to e.
func (w twin) expects(t *testing.T, m method.Method, e api.Errno, wanted []reply.Reply, asked ...deed.Deed) twin {
	t.Helper()
	more, told, deeds, code := w.asked(t, m, 5, e)
	if code != api.OK || !sameReplies(told, wanted) || !sameDeeds(deeds, asked) {
		t.Errorf("%+v of %d: %d, %+v, %+v, wanted %+v, %+v", m, e, code, told, deeds, wanted, asked)
	}
	return more
}

// sent: a message is handed out.
func (w twin) sent(t *testing.T, to Taker, x line.Item) twin {
	t.Helper()
	s, r := w.s.Sent(to, x)
	p, wanted := w.p, []reply.Reply{{}}
	if to.Channel < 5 && w.p.sides[to.Channel].open {
		p, wanted = w.p.sent(to, x)
	}
	if !reply.Same(r, wanted[0]) {
		t.Fatalf("%+v: %+v, wanted %+v", to, r, wanted)
	}
	tells(t, "sent", s, p)
	tells(t, "as it was", w.s, w.p)
	return twin{s, p}
}

// lent: messages of these IDs are handed out, of the queue q, on a channel.
func (w twin) lent(t *testing.T, channel uint8, ids ...uint64) twin {
	t.Helper()
	for _, id := range ids {
		w = w.sent(t, Taker{channel, 7, "q"}, line.Item{Mail: api.Mail{ID: id, Shop: "a"}, Lent: true})
	}
	return w
}

// end: it is over, with just these deeds, at the tick 5.
func (w twin) end(t *testing.T, want ...deed.Deed) twin {
	t.Helper()
	s, l := w.s.End(5)
	p, _ := w.p.end(5)
	if !sameDeeds(l, want) {
		t.Errorf("%+v, wanted %+v", l, want)
	}
	tells(t, "ended", s, p)
	tells(t, "as it was", w.s, w.p)
	return twin{s, p}
}

// settle: a Settle of the queue q at the tick 5.
func settle(id uint64, how uint8) deed.Deed {
	return deed.Deed{Kind: deed.Settle, Tick: 5, Name: "q", ID: id, How: how}
}

// bytesOf: the bytes of methods' frames.
func bytesOf(t *testing.T, l ...method.Method) string {
	t.Helper()
	var all strings.Builder
	for _, m := range l {
		f, code := m.Frame()
		if code != api.OK {
			t.Fatalf("%+v: %d", m, code)
		}
		all.WriteString(framed(t, f))
	}
	return all.String()
}

// framed: a frame's bytes.
func framed(t *testing.T, f frame.Frame) string {
	t.Helper()
	s, code := frame.Bytes(f)
	if code != api.OK {
		t.Fatal(code)
	}
	return s
}
