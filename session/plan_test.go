package session

import (
	"slices"
	"strings"
	"testing"

	"stairwell/api"
	"stairwell/deed"
	"stairwell/line"
	"stairwell/method"
	"stairwell/reply"
	"stairwell/route"
	"stairwell/stock"
	"stairwell/store"
)

// on: a method on channel 1.
func on(kind uint8) method.Method { return method.Method{Channel: 1, Kind: kind} }

// get, drafts, sure, commit and others: methods on channel 1.
var (
	get    = method.Method{Channel: 1, Kind: method.Get, Name: "q"}
	drafts = on(method.Draft)
	sure   = on(method.Sure)
	commit = on(method.Commit)
	undo   = on(method.Undo)
	closes = on(method.Close)
	opens  = on(method.Open)
	sends  = method.Method{Channel: 1, Kind: method.Put, Name: "a", Key: "k", Body: "b", M: 2}
)

// settles: a Settle on channel 1.
func settles(id, how uint64, upto bool) method.Method {
	return method.Method{Channel: 1, Kind: method.Settle, N: id, M: how, Yes: upto}
}

// isDone, isRefused: what is told on channel 1.
var isDone = []reply.Reply{{Channel: 1, Kind: reply.Done}}

func isRefused(e api.Errno) []reply.Reply {
	return []reply.Reply{{Channel: 1, Kind: reply.Refused, N: uint64(e)}}
}

// P28.2: the document's example: Hello with N 1 is told Welcome, a second one is ErrOrder.
func TestExample(t *testing.T) {
	s, told, deeds, code := New("low").Plan(hello, 0)
	if code != api.OK || len(deeds) != 0 || !sameReplies(told, []reply.Reply{{Kind: reply.Welcome, Name: "low"}}) || !s.Begun() {
		t.Errorf("%+v, %+v, %d", told, deeds, code)
	}
	if _, told, deeds, code := s.Plan(hello, 0); code != api.ErrOrder || len(told) != 0 || len(deeds) != 0 {
		t.Errorf("%+v, %+v, %d", told, deeds, code)
	}
}

// P28.2: ahead of Hello, it alone may come, on channel 0, with N 1; ErrOrder of what comes ahead of it, and on another channel, ahead of
// ErrRange of its N, and of the channel.
func TestMayBegin(t *testing.T) {
	w := fresh()
	for _, channel := range []uint8{0, 1, 4, 5, 255} {
		for _, m := range each(channel)[1:] {
			w.refuses(t, "ahead of Hello", m, api.ErrOrder)
		}
		for _, n := range []uint64{0, 1, 2, 257, 1<<32 + 1, most} {
			m := method.Method{Channel: channel, Kind: method.Hello, N: n}
			switch {
			case channel > 0:
				w.refuses(t, "on another channel", m, api.ErrOrder)
			case n != 1:
				w.refuses(t, "another version", m, api.ErrRange)
			default:
				w.expects(t, m, api.OK, []reply.Reply{{Kind: reply.Welcome, Name: "low"}})
			}
		}
	}
}

// P28.2: behind Hello: ErrOrder of it, and of channel 0, ErrRange of a channel above 4, ErrOrder of Open of an open one, and of all
// others of one that isn't.
func TestMay(t *testing.T) {
	w := begun(t, 1, 4)
	for _, n := range []uint64{0, 1, 2} {
		for _, channel := range []uint8{0, 1, 2, 4, 5, 255} {
			w.refuses(t, "a second Hello", method.Method{Channel: channel, Kind: method.Hello, N: n}, api.ErrOrder)
		}
	}
	for _, m := range each(0) {
		w.refuses(t, "channel 0", m, api.ErrOrder)
	}
	for _, channel := range []uint8{5, 6, 128, 132, 255} {
		for _, m := range each(channel)[1:] {
			w.refuses(t, "no channel", m, api.ErrRange)
		}
	}
	for _, channel := range []uint8{2, 3} {
		for _, m := range each(channel)[2:] {
			w.refuses(t, "not open", m, api.ErrOrder)
		}
		w.expects(t, method.Method{Channel: channel, Kind: method.Open}, api.OK, []reply.Reply{{Channel: channel, Kind: reply.Done}})
	}
	for _, channel := range []uint8{1, 4} {
		w.refuses(t, "open", method.Method{Channel: channel, Kind: method.Open}, api.ErrOrder)
		for _, m := range each(channel)[2:] {
			if _, _, _, code := w.plan(t, m, 5); code != api.OK {
				t.Errorf("%+v: %d", m, code)
			}
		}
	}
	over := w.end(t)
	for _, channel := range []uint8{0, 1, 2, 5} {
		for _, m := range each(channel) {
			over.refuses(t, "over", m, api.ErrClosed)
			fresh().end(t).refuses(t, "over, not begun", m, api.ErrClosed)
		}
	}
}

// P28.2: Open makes a new channel, behind Close, too: of the credit 16, without takers, neither sure nor drafting.
func TestOpen(t *testing.T) {
	w := begun(t)
	for channel := uint8(1); channel <= 4; channel++ {
		w = w.expects(t, method.Method{Channel: channel, Kind: method.Open}, api.OK, []reply.Reply{{Channel: channel, Kind: reply.Done}})
	}
	w = w.says(t, method.Method{Channel: 1, Kind: method.Credit, N: 1}, method.Method{Channel: 1, Kind: method.Take, Name: "q", N: 3}, sure, sends)
	w = w.says(t, closes)
	w.refuses(t, "closed", sends, api.ErrOrder)
	w.refuses(t, "closed again", closes, api.ErrOrder)
	w = w.says(t, opens)
	if len(w.s.Takers()) != 0 {
		t.Errorf("%v", w.s.Takers())
	}
	w.says(t, drafts)
	w = w.says(t, sure).expects(t, sends, api.OK, []reply.Reply{{Channel: 1, Kind: reply.Kept, N: 1}}, sent())
	var ids []uint64
	for id := range uint64(16) {
		ids = append(ids, id)
	}
	w.lent(t, 1, ids[:15]...).says(t, get)
	w.lent(t, 1, ids...).expects(t, get, api.OK, isRefused(api.ErrFull))
	drafted := begun(t, 1).says(t, drafts, sends, closes, opens)
	drafted.says(t, sure)
	drafted.expects(t, commit, api.OK, isRefused(api.ErrOrder))
}

// sent: the deed of sends.
func sent() deed.Deed {
	return deed.Deed{Kind: deed.Put, Tick: 5, Mail: api.Mail{Shop: "a", Key: "k", Body: "b", Due: 7}}
}

// P28.2: Close without anything unsettled, at once; with, behind its Settles: with OK the channel isn't open, with an error it is.
func TestClose(t *testing.T) {
	w := begun(t, 1, 2).lent(t, 2, 8)
	w.expects(t, closes, api.OK, isDone).refuses(t, "closed", get, api.ErrOrder)
	some := w.lent(t, 1, 9, 2, 4)
	back := []deed.Deed{settle(9, 2), settle(2, 2), settle(4, 2)}
	shut := some.expects(t, closes, api.OK, isDone, back...)
	shut.refuses(t, "closed", get, api.ErrOrder)
	shut.end(t, settle(8, 2))
	shut.says(t, opens).end(t, settle(8, 2))
	for _, e := range []api.Errno{api.ErrNone, api.ErrOrder, api.ErrBroken, api.ErrPower} {
		kept := some.expects(t, closes, e, isRefused(e), back...)
		kept.refuses(t, "open yet", opens, api.ErrOrder)
		kept.end(t, settle(9, 2), settle(2, 2), settle(4, 2), settle(8, 2))
	}
	held := some.says(t, drafts, sends, settles(2, 0, false))
	held.expects(t, closes, api.OK, isDone, back...).says(t, opens).expects(t, commit, api.OK, isRefused(api.ErrOrder))
	begun(t, 1).says(t, drafts, sends).expects(t, closes, api.OK, isDone)
}

// P28.2: what is made, dropped, bound and unbound: the deeds of the tick, Done, and Refused with the error.
func TestDeeds(t *testing.T) {
	h := []api.Pair{{Key: "n", Num: -1}, {Key: "y", Kind: 2, Num: 1}}
	long := strings.Repeat("n", 16)
	w := begun(t, 1)
	for _, x := range []struct {
		m method.Method
		d deed.Deed
	}{
		{method.Method{Kind: method.MakeShop, Name: "a"}, deed.Deed{Kind: deed.MakeShop, Shop: route.Shop{Name: "a"}}},
		{method.Method{Kind: method.MakeShop, Name: long, N: 4, Other: "up"}, deed.Deed{Kind: deed.MakeShop, Shop: route.Shop{Name: long, Sort: 4, To: "up"}}},
		{method.Method{Kind: method.DropShop, Name: "a"}, deed.Deed{Kind: deed.DropShop, Name: "a"}},
		{method.Method{Kind: method.MakeQueue, Name: "q"}, deed.Deed{Kind: deed.MakeQueue, Queue: stock.Queue{Name: "q"}}},
		{method.Method{Kind: method.MakeQueue, Name: "q", N: most, M: most - 1, Other: "dead"},
			deed.Deed{Kind: deed.MakeQueue, Queue: stock.Queue{Name: "q", Most: most, Life: most - 1, Dead: "dead"}}},
		{method.Method{Kind: method.MakeQueue, Name: "q", N: 64, M: 3}, deed.Deed{Kind: deed.MakeQueue, Queue: stock.Queue{Name: "q", Most: 64, Life: 3}}},
		{method.Method{Kind: method.DropQueue, Name: "q"}, deed.Deed{Kind: deed.DropQueue, Name: "q"}},
		{method.Method{Kind: method.Bind, Name: "a", Other: "q"}, deed.Deed{Kind: deed.Bind, Bind: route.Bind{Shop: "a", To: "q"}}},
		{method.Method{Kind: method.Bind, Name: "a", Other: "q", Key: "k.*.#", Head: h, Yes: true},
			deed.Deed{Kind: deed.Bind, Bind: route.Bind{Shop: "a", To: "q", Key: "k.*.#", Want: h, All: true}}},
		{method.Method{Kind: method.Unbind, Name: "a", Other: "q", Key: "k", Head: h}, deed.Deed{Kind: deed.Unbind, Bind: route.Bind{Shop: "a", To: "q", Key: "k", Want: h}}},
		{method.Method{Kind: method.Lift, Name: "a", Other: "up", Key: "#", Head: h, Yes: true},
			deed.Deed{Kind: deed.Bind, Bind: route.Bind{Shop: "a", To: "up", Up: true, Key: "#", Want: h, All: true}}},
		{method.Method{Kind: method.Unlift, Name: "a", Other: "up"}, deed.Deed{Kind: deed.Unbind, Bind: route.Bind{Shop: "a", To: "up", Up: true}}},
	} {
		x.m.Channel, x.d.Tick = 1, 5
		if code := x.d.Check(); code != api.OK {
			t.Errorf("%+v may not be: %d", x.d, code)
		}
		w.expects(t, x.m, api.OK, isDone, x.d)
		for e := api.ErrNil; e <= api.ErrBroken; e++ {
			w.expects(t, x.m, e, isRefused(e), x.d)
		}
		w.says(t, drafts).expects(t, x.m, api.OK, isDone, x.d)
		w.says(t, sure).expects(t, x.m, api.ErrFull, isRefused(api.ErrFull), x.d)
	}
}

// P28.2: a MakeShop's Sort is N, 255 of an N above that.
func TestSort(t *testing.T) {
	w := begun(t, 1)
	for n, want := range map[uint64]uint8{
		0: 0, 1: 1, 3: 3, 4: 4, 5: 5, 127: 127, 128: 128, 254: 254, 255: 255, 256: 255, 257: 255, 260: 255, 511: 255, 1 << 32: 255, 1<<32 + 4: 255, 1 << 63: 255, most: 255,
	} {
		m := method.Method{Channel: 1, Kind: method.MakeShop, Name: "a", N: n}
		w.expects(t, m, api.OK, isDone, deed.Deed{Kind: deed.MakeShop, Tick: 5, Shop: route.Shop{Name: "a", Sort: want}})
	}
}

// P28.2: deeds are of the tick at which they are asked for, and a Put's life begins then, up to the last tick.
func TestTicks(t *testing.T) {
	w := begun(t, 1).lent(t, 1, 1, 2)
	for _, x := range []struct{ tick, life, due uint64 }{
		{0, 0, 0}, {0, 1, 1}, {7, 3, 10}, {most - 1, 1, most}, {most - 1, 2, 0}, {most, 0, 0}, {most, 1, 0}, {0, most, most}, {1, most, 0}, {1, most - 1, most},
	} {
		m := sends
		m.M = x.life
		_, told, l, code := w.plan(t, m, x.tick)
		if code != api.OK || len(told) != 0 || len(l) != 1 || l[0].Tick != x.tick || l[0].Mail.Due != x.due {
			t.Errorf("%+v: %+v, %+v, %d", x, told, l, code)
		}
		for _, m := range []method.Method{closes, get, settles(2, 0, true), each(1)[method.MakeShop], each(1)[method.DropQueue], each(1)[method.Lift]} {
			_, _, l, _ := w.plan(t, m, x.tick)
			for _, d := range l {
				if d.Tick != x.tick {
					t.Errorf("%+v at %d: %+v", m, x.tick, d)
				}
			}
			if len(l) == 0 {
				t.Errorf("%+v asks for nothing", m)
			}
		}
	}
}

// P28.2: a Put on a channel that is neither sure nor drafts: nothing is told behind OK, Refused behind an error.
func TestPut(t *testing.T) {
	h := []api.Pair{{Key: "n", Num: 3}, {Key: "t", Kind: 1, Text: "x"}}
	w := begun(t, 1)
	m := method.Method{Channel: 1, Kind: method.Put, Name: "a", Key: "k.l", Head: h, Body: strings.Repeat("b", 256), M: 4}
	d := deed.Deed{Kind: deed.Put, Tick: 5, Mail: api.Mail{Shop: "a", Key: "k.l", Head: h, Body: strings.Repeat("b", 256), Due: 9}}
	w.expects(t, m, api.OK, nil, d)
	for e := api.ErrNil; e <= api.ErrBroken; e++ {
		w.expects(t, m, e, isRefused(e), d).expects(t, m, api.OK, nil, d)
	}
	bare := method.Method{Channel: 1, Kind: method.Put, Name: "b"}
	w.expects(t, bare, api.OK, nil, deed.Deed{Kind: deed.Put, Tick: 5, Mail: api.Mail{Shop: "b"}})
}

// P28.2: a Put on a channel that is sure: Kept with its number, Lost with its number and the error, each channel on its own.
func TestPutSure(t *testing.T) {
	w := begun(t, 1, 2).says(t, sends, sure, method.Method{Channel: 2, Kind: method.Sure})
	other := sends
	other.Channel = 2
	for n := uint64(1); n < 20; n++ {
		e := api.Errno(n % 3 * n)
		want := []reply.Reply{{Channel: 1, Kind: reply.Kept, N: n}}
		if e != api.OK {
			want = []reply.Reply{{Channel: 1, Kind: reply.Lost, N: n, M: uint64(e)}}
		}
		w = w.expects(t, sends, e, want, sent())
		if n%4 == 0 {
			w = w.expects(t, other, api.OK, []reply.Reply{{Channel: 2, Kind: reply.Kept, N: n / 4}}, sent())
		}
		w = w.says(t, sure)
		if n%5 == 0 {
			w.refuses(t, "a method that may not come", method.Method{Channel: 3, Kind: method.Put, Name: "a"}, api.ErrOrder)
			w = w.expects(t, get, api.ErrEmpty, []reply.Reply{{Channel: 1, Kind: reply.Nothing}}, deed.Deed{Kind: deed.Lend, Tick: 5, Name: "q"})
		}
	}
	w.expects(t, drafts, api.OK, isRefused(api.ErrOrder))
}

// P28.2: a Put on a channel that drafts is held, told nothing; the 17th is Refused at once. Its life begins at the Commit.
func TestPutDrafted(t *testing.T) {
	w := begun(t, 1, 2).says(t, drafts)
	var want []deed.Deed
	for n := range uint64(16) {
		m := sends
		m.M = n
		w = w.expects(t, m, api.OK, nil)
		one := sent()
		one.Mail.Due = 0
		if n > 0 {
			one.Mail.Due = 5 + n
		}
		want = append(want, one)
	}
	full := w.expects(t, sends, api.OK, isRefused(api.ErrFull))
	full = full.expects(t, sends, api.OK, isRefused(api.ErrFull))
	behind := full.expects(t, commit, api.OK, isDone, want...)
	behind.expects(t, commit, api.OK, isDone)
	behind.expects(t, sends, api.OK, nil).expects(t, commit, api.OK, isDone, sent())
	other := sends
	other.Channel = 2
	full.expects(t, other, api.OK, nil, sent())
	_, _, l, _ := full.plan(t, commit, most-3)
	for n, d := range l {
		if life := uint64(n); d.Tick != most-3 || (life == 0 || life > 3) != (d.Mail.Due == 0) || d.Mail.Due > 0 && d.Mail.Due != most-3+life {
			t.Errorf("%d: %+v", n, d)
		}
	}
}

// P28.2: Credit, Take, Leave, Sure, Draft and Undo ask for nothing; Done, or Refused with layer 27's error.
func TestAlone(t *testing.T) {
	w := begun(t, 1, 2).lent(t, 1, 1, 2)
	of := func(kind uint8, n uint64) method.Method { return method.Method{Channel: 1, Kind: kind, N: n} }
	take := func(n uint64) method.Method {
		m := of(method.Take, n)
		m.Name = "q"
		return m
	}
	for _, n := range []uint64{1, 2, 16} {
		w.expects(t, of(method.Credit, n), api.OK, isDone)
	}
	for _, n := range []uint64{0, 17, 257, most} {
		w.expects(t, of(method.Credit, n), api.OK, isRefused(api.ErrRange))
	}
	for _, n := range []uint64{256, 257, most} {
		w.expects(t, take(n), api.OK, isRefused(api.ErrRange))
		w.expects(t, of(method.Leave, n), api.OK, isRefused(api.ErrNone))
	}
	for n := range uint64(4) {
		w.expects(t, of(method.Leave, n), api.OK, isRefused(api.ErrNone))
		w = w.expects(t, take(n), api.OK, isDone)
		w.expects(t, take(n), api.OK, isRefused(api.ErrThere))
	}
	w.expects(t, take(255), api.OK, isRefused(api.ErrFull))
	w = w.expects(t, of(method.Leave, 1), api.OK, isDone).expects(t, take(255), api.OK, isDone)
	want := []Taker{{1, 0, "q"}, {1, 2, "q"}, {1, 3, "q"}, {1, 255, "q"}}
	if got := w.s.Takers(); !slices.Equal(got, want) {
		t.Errorf("%v", got)
	}
	w.expects(t, undo, api.OK, isRefused(api.ErrOrder))
	w.expects(t, sure, api.OK, isDone).expects(t, sure, api.OK, isDone).expects(t, drafts, api.OK, isRefused(api.ErrOrder))
	w = w.expects(t, drafts, api.OK, isDone).expects(t, drafts, api.OK, isRefused(api.ErrOrder)).expects(t, sure, api.OK, isRefused(api.ErrOrder))
	w.expects(t, undo, api.OK, isDone).expects(t, undo, api.OK, isDone)
	w.says(t, sends, settles(1, 0, false), undo).expects(t, commit, api.OK, isDone)
}

// P28.2: Get asks for a Lend, and is told Sent, with the tag 256; the message is unsettled on that channel, of that queue.
func TestGet(t *testing.T) {
	w := begun(t, 1, 2)
	lend := deed.Deed{Kind: deed.Lend, Tick: 5, Name: "q"}
	m := api.Mail{ID: 900, Shop: "a", Key: "k", Head: []api.Pair{{Key: "n", Num: 5}}, Body: "b"}
	only := m
	only.ID = 0
	w = w.expects(t, get, api.OK, []reply.Reply{{Channel: 1, Kind: reply.Sent, N: 900, M: 256, Yes: true, Mail: only}}, lend)
	w.end(t, settle(900, 2))
	again, _, _, _ := w.plan(t, get, 5)
	for _, marked := range []bool{false, true} {
		x := line.Item{Mail: m, Lent: true, Again: marked}
		x.Mail.ID, x.Mail.Due, x.Mail.Hops = most, 9, 4
		more, told := again.told(t, get, []store.Result{{Item: x, Count: 3}}, api.OK)
		if !sameReplies(told, []reply.Reply{{Channel: 1, Kind: reply.Sent, N: most, M: 256, Yes: marked, Mail: only}}) {
			t.Errorf("%+v", told)
		}
		more.end(t, settle(900, 2), settle(most, 2))
	}
	w.expects(t, get, api.ErrEmpty, []reply.Reply{{Channel: 1, Kind: reply.Nothing}}, lend).end(t, settle(900, 2))
	for e := api.ErrNil; e <= api.ErrBroken; e++ {
		if e != api.ErrEmpty {
			w.expects(t, get, e, isRefused(e), lend).end(t, settle(900, 2))
		}
	}
}

// P28.2: Get where there is no room asks for nothing: Refused, with ErrFull; with room again it asks.
func TestGetFull(t *testing.T) {
	lend := deed.Deed{Kind: deed.Lend, Tick: 5, Name: "q"}
	for _, credit := range []uint64{1, 2, 16} {
		w := begun(t, 1, 2).says(t, method.Method{Channel: 1, Kind: method.Credit, N: credit})
		for id := range credit {
			w.expects(t, get, api.ErrEmpty, []reply.Reply{{Channel: 1, Kind: reply.Nothing}}, lend)
			w = w.lent(t, 1, id)
		}
		w.expects(t, get, api.OK, isRefused(api.ErrFull))
		w.lent(t, 1, 99).expects(t, get, api.OK, isRefused(api.ErrFull))
		other := get
		other.Channel = 2
		w.says(t, other)
		w.says(t, settles(0, 0, false)).expects(t, get, api.ErrNone, isRefused(api.ErrNone), lend)
		if credit > 1 {
			w.says(t, method.Method{Channel: 1, Kind: method.Credit, N: 1}, settles(0, 0, false)).expects(t, get, api.OK, isRefused(api.ErrFull))
		}
	}
}

// P28.2: Settle alone and upto, of each How: its Settles, of the tick; behind OK they are gone, behind an error they aren't.
func TestSettle(t *testing.T) {
	w := begun(t, 1, 2).lent(t, 1, 4, 2, 9).lent(t, 2, 4)
	for how := range uint64(3) {
		h := uint8(how)
		w.expects(t, settles(4, how, false), api.OK, isDone, settle(4, h)).end(t, settle(2, 2), settle(9, 2), settle(4, 2))
		w.expects(t, settles(9, how, false), api.OK, isDone, settle(9, h)).end(t, settle(4, 2), settle(2, 2), settle(4, 2))
		w.expects(t, settles(2, how, true), api.OK, isDone, settle(4, h), settle(2, h)).end(t, settle(9, 2), settle(4, 2))
		w.expects(t, settles(9, how, true), api.OK, isDone, settle(4, h), settle(2, h), settle(9, h)).end(t, settle(4, 2))
		for _, e := range []api.Errno{api.ErrNone, api.ErrOrder, api.ErrEmpty, api.ErrBroken} {
			kept := w.expects(t, settles(2, how, true), e, isRefused(e), settle(4, h), settle(2, h))
			kept.end(t, settle(4, 2), settle(2, 2), settle(9, 2), settle(4, 2))
		}
	}
	for _, id := range []uint64{0, 1, 3, most} {
		w.expects(t, settles(id, 0, true), api.OK, isRefused(api.ErrNone))
		w.expects(t, settles(id, 3, false), api.OK, isRefused(api.ErrRange))
	}
	w.expects(t, settles(4, 256, false), api.OK, isRefused(api.ErrRange))
	w = w.says(t, settles(2, 0, true))
	w.expects(t, settles(4, 0, false), api.OK, isRefused(api.ErrNone))
	w.expects(t, settles(2, 0, true), api.OK, isRefused(api.ErrNone))
	w.says(t, settles(9, 1, true)).expects(t, settles(9, 0, true), api.OK, isRefused(api.ErrNone))
}

// P28.2: of one ID that is unsettled of two queues the first one is settled, and it alone is gone.
func TestSettleTwice(t *testing.T) {
	w := begun(t, 1).lent(t, 1, 4).sent(t, Taker{1, 9, "u"}, line.Item{Mail: api.Mail{ID: 5, Shop: "a"}}).lent(t, 1, 5)
	first := settle(5, 0)
	first.Name = "u"
	w.expects(t, settles(5, 0, false), api.OK, isDone, first).end(t, settle(4, 2), settle(5, 2))
	w.expects(t, settles(5, 0, true), api.OK, isDone, settle(4, 0), first).end(t, settle(5, 2))
	held := w.says(t, drafts).expects(t, settles(5, 0, false), api.OK, isDone)
	back := first
	back.How = 2
	held.end(t, settle(4, 2), back, settle(5, 2)) // what is held isn't gone, nor is the other one
	held.expects(t, commit, api.OK, isDone, first).end(t, settle(4, 2), settle(5, 2))
	held = held.expects(t, settles(5, 1, true), api.OK, isDone).expects(t, settles(5, 1, true), api.OK, isRefused(api.ErrNone))
	held.expects(t, commit, api.OK, isDone, first, settle(4, 1), settle(5, 1)).end(t)
}

// P28.2: Settle on a channel that drafts is held, Done at once, and nothing is gone; what is held isn't settled again.
func TestSettleDrafted(t *testing.T) {
	w := begun(t, 1).lent(t, 1, 4, 2, 9).says(t, drafts)
	all := []deed.Deed{settle(4, 2), settle(2, 2), settle(9, 2)}
	w.expects(t, settles(1, 0, true), api.OK, isRefused(api.ErrNone))
	w.expects(t, settles(4, 3, true), api.OK, isRefused(api.ErrRange))
	w = w.expects(t, settles(2, 1, false), api.OK, isDone)
	w.end(t, all...)
	w.expects(t, settles(2, 0, false), api.OK, isRefused(api.ErrNone))
	w = w.expects(t, settles(9, 0, true), api.OK, isDone)
	w.end(t, all...)
	w.expects(t, settles(9, 0, true), api.OK, isRefused(api.ErrNone))
	held := []deed.Deed{settle(2, 1), settle(4, 0), settle(9, 0)}
	w.expects(t, commit, api.OK, isDone, held...).end(t)
	again := w.expects(t, commit, api.ErrNone, isRefused(api.ErrNone), held...)
	again.end(t, all...)
	again.expects(t, settles(9, 2, true), api.OK, isDone).expects(t, commit, api.OK, isDone, all...)
}

// P28.2: Settle of which Hold has an error: none of its Settles is held.
func TestSettleFull(t *testing.T) {
	w := begun(t, 1).lent(t, 1, 4, 2, 9).says(t, drafts)
	var puts []deed.Deed
	for range 14 {
		w, puts = w.says(t, sends), append(puts, sent())
	}
	w.expects(t, settles(9, 0, true), api.OK, isRefused(api.ErrFull)).expects(t, commit, api.OK, isDone, puts...)
	w = w.expects(t, settles(2, 0, true), api.OK, isDone)
	w = w.expects(t, settles(9, 0, true), api.OK, isRefused(api.ErrFull))
	w = w.expects(t, settles(9, 0, false), api.OK, isRefused(api.ErrFull))
	w.expects(t, commit, api.OK, isDone, append(puts, settle(4, 0), settle(2, 0))...).end(t, settle(9, 2))
	w.says(t, undo, settles(9, 0, true))
	twice := begun(t, 1).lent(t, 1, 4, 4, 9).says(t, drafts)
	twice.expects(t, settles(9, 0, true), api.OK, isRefused(api.ErrThere))
	twice.says(t, settles(4, 0, false)).expects(t, settles(4, 0, false), api.OK, isRefused(api.ErrNone))
	none := begun(t, 1).sent(t, Taker{1, 7, "NO NAME"}, line.Item{Mail: api.Mail{ID: 4, Shop: "a"}}).says(t, drafts)
	none.expects(t, settles(4, 0, false), api.OK, isRefused(api.ErrForm))
}

// P28.2: Commit of a draft without deeds at once, behind OK, behind an error, and where it doesn't draft; the draft is undone behind it,
// and drafts on.
func TestCommit(t *testing.T) {
	for _, w := range []twin{begun(t, 1), begun(t, 1).says(t, sure), begun(t, 1).says(t, sure, sends)} {
		w.expects(t, commit, api.OK, isRefused(api.ErrOrder)).expects(t, commit, api.OK, isRefused(api.ErrOrder))
	}
	w := begun(t, 1, 2).lent(t, 1, 4, 2, 9).says(t, drafts)
	w.expects(t, commit, api.OK, isDone).expects(t, commit, api.OK, isDone)
	w = w.says(t, sends, settles(2, 1, true))
	deeds := []deed.Deed{sent(), settle(4, 1), settle(2, 1)}
	behind := w.expects(t, commit, api.OK, isDone, deeds...)
	behind.end(t, settle(9, 2))
	behind.expects(t, commit, api.OK, isDone)
	behind.expects(t, sure, api.OK, isRefused(api.ErrOrder))
	for e := api.ErrNil; e <= api.ErrBroken; e++ {
		failed := w.expects(t, commit, e, isRefused(e), deeds...)
		failed.end(t, settle(4, 2), settle(2, 2), settle(9, 2))
		failed.expects(t, commit, api.OK, isDone)
		failed.expects(t, drafts, api.OK, isRefused(api.ErrOrder))
	}
	planned, told, _, _ := w.plan(t, commit, 5)
	if len(told) != 0 {
		t.Errorf("%+v", told)
	}
	planned.expects(t, settles(2, 0, false), api.OK, isRefused(api.ErrNone)) // the draft is undone behind its deeds alone
	planned.end(t, settle(4, 2), settle(2, 2), settle(9, 2))
}

// P28.2: each channel has its own: what is asked on one is told on it, and leaves the others as they are.
func TestChannels(t *testing.T) {
	w := begun(t, 1, 2, 3, 4)
	for channel := uint8(1); channel <= 4; channel++ {
		w = w.lent(t, channel, uint64(channel))
	}
	for channel := uint8(1); channel <= 4; channel++ {
		for _, m := range each(channel)[2:] {
			m.N = min(m.N, uint64(channel))
			for _, e := range []api.Errno{api.OK, api.ErrEmpty, api.ErrGrant} {
				_, told, _, code := w.asked(t, m, 5, e)
				if code != api.OK || len(told) > 1 || len(told) == 1 && told[0].Channel != channel {
					t.Errorf("%+v: %+v, %d", m, told, code)
				}
			}
		}
	}
}
