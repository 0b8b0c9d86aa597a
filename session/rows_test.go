package session

import (
	"math/rand"
	"slices"
	"strings"
	"testing"

	"stairwell/api"
	"stairwell/deed"
	"stairwell/line"
	"stairwell/method"
	"stairwell/policy"
	"stairwell/reply"
	"stairwell/store"
)

// one: one of some, by chance.
func one[T any](r *rand.Rand, l ...T) T { return l[r.Intn(len(l))] }

// P28.3: Takers of channels that are open and have room, by rising channels, and of each in order.
func TestTakers(t *testing.T) {
	take := func(channel uint8, tag uint64, queue string) method.Method {
		return method.Method{Channel: channel, Kind: method.Take, Name: queue, N: tag}
	}
	w := begun(t, 4, 2, 1).says(t, take(4, 0, "q"), take(2, 9, "u"), take(4, 255, "u"), take(2, 3, "q"), take(2, 5, "q"))
	want := []Taker{{2, 9, "u"}, {2, 3, "q"}, {2, 5, "q"}, {4, 0, "q"}, {4, 255, "u"}}
	if got := w.s.Takers(); !slices.Equal(got, want) {
		t.Errorf("%v", got)
	}
	w = w.says(t, method.Method{Channel: 2, Kind: method.Credit, N: 2}).lent(t, 2, 7)
	if got := w.s.Takers(); !slices.Equal(got, want) {
		t.Errorf("%v", got)
	}
	full := w.lent(t, 2, 8)
	if got := full.s.Takers(); !slices.Equal(got, want[3:]) {
		t.Errorf("%v", got)
	}
	if got := full.lent(t, 2, 9).s.Takers(); !slices.Equal(got, want[3:]) {
		t.Errorf("%v", got)
	}
	again := full.says(t, method.Method{Channel: 2, Kind: method.Settle, N: 7})
	if got := again.s.Takers(); !slices.Equal(got, want) {
		t.Errorf("%v", got)
	}
	shut := again.says(t, method.Method{Channel: 4, Kind: method.Close}, method.Method{Channel: 2, Kind: method.Leave, N: 3})
	if got := shut.s.Takers(); !slices.Equal(got, []Taker{{2, 9, "u"}, {2, 5, "q"}}) {
		t.Errorf("%v", got)
	}
	if got := shut.says(t, method.Method{Channel: 4, Kind: method.Open}).s.Takers(); len(got) != 2 {
		t.Errorf("%v", got)
	}
}

// P28.3: Sent: the message is told with the taker's tag, without its ID, Due and Hops, and is unsettled on that channel, of that queue.
func TestSent(t *testing.T) {
	h := []api.Pair{{Key: "n", Num: -1}, {Key: "t", Kind: 1, Text: "x"}}
	w := begun(t, 1, 4)
	for _, x := range []struct {
		to Taker
		m  api.Mail
	}{
		{Taker{1, 0, "q"}, api.Mail{ID: 3, Shop: "a"}}, {Taker{4, 255, "u"}, api.Mail{ID: most, Shop: "b", Key: "k.l", Head: h, Body: "body", Due: 7, Hops: 4}},
		{Taker{4, 256, "u"}, api.Mail{Shop: "b", Key: "k.l", Body: strings.Repeat("b", 256), Due: most}}, {Taker{1, most, "none"}, api.Mail{ID: 9, Shop: "b", Hops: 1}},
	} {
		for _, again := range []bool{false, true} {
			for _, lent := range []bool{false, true} {
				s, r := w.s.Sent(x.to, line.Item{Mail: x.m, Lent: lent, Again: again})
				only := api.Mail{Shop: x.m.Shop, Key: x.m.Key, Head: x.m.Head, Body: x.m.Body}
				if !reply.Same(r, reply.Reply{Channel: x.to.Channel, Kind: reply.Sent, N: x.m.ID, M: x.to.Tag, Yes: again, Mail: only}) {
					t.Errorf("%+v: %+v", x, r)
				}
				if code := r.Check(); code != api.OK {
					t.Errorf("%+v may not be: %d", r, code)
				}
				if _, l := s.End(5); !sameDeeds(l, []deed.Deed{{Kind: deed.Settle, Tick: 5, Name: x.to.Queue, ID: x.m.ID, How: 2}}) {
					t.Errorf("%+v: %+v", x, l)
				}
			}
		}
		w.sent(t, x.to, line.Item{Mail: x.m})
	}
}

// P28.3: Sent on a channel that isn't open: the same session, and the zero reply.
func TestSentNotOpen(t *testing.T) {
	x := line.Item{Mail: api.Mail{ID: 3, Shop: "a", Body: "b"}, Again: true}
	for _, w := range []twin{fresh(), begun(t), begun(t, 1, 2).lent(t, 1, 4), begun(t, 1, 3).says(t, closes), begun(t, 1, 4).end(t)} {
		for _, channel := range []uint8{0, 1, 2, 3, 4, 5, 6, 128, 255} {
			if channel < 5 && w.p.sides[channel].open {
				continue
			}
			more := w.sent(t, Taker{channel, 7, "q"}, x)
			if _, r := w.s.Sent(Taker{channel, 7, "q"}, x); !reply.Same(r, reply.Reply{}) {
				t.Errorf("%d: %+v", channel, r)
			}
			tells(t, "the same", more.s, w.p)
		}
	}
}

// Objects and values: a session of which others were made stays as it was, and none of these has what another one has.
func TestApart(t *testing.T) {
	w := begun(t, 1, 2).lent(t, 1, 4, 2).says(t, method.Method{Channel: 1, Kind: method.Take, Name: "q", N: 1}, drafts, sends)
	all := []twin{w}
	for n := range uint64(3) {
		all = append(all, w.lent(t, 1, 10+n), w.says(t, method.Method{Channel: 1, Kind: method.Take, Name: "u", N: 10 + n}), w.says(t, settles(4, n, false)))
		m := sends
		m.M = 20 + n
		all = append(all, w.says(t, m), w.says(t, method.Method{Channel: 1, Kind: method.Credit, N: 3 + n}))
	}
	all = append(all, w.says(t, commit), w.says(t, undo), w.says(t, closes), w.says(t, method.Method{Channel: 3, Kind: method.Open}))
	for _, x := range all[:len(all):len(all)] {
		all = append(all, x.lent(t, 2, 30), x.lent(t, 2, 31))
	}
	for _, x := range all {
		tells(t, "at the end", x.s, x.p)
	}
}

// pairs: a head with spare room.
func pairs() []api.Pair {
	return append(make([]api.Pair, 0, 4), api.Pair{Key: "x"}, api.Pair{Key: "y"})
}

// overHead: a head is written over, spare room included.
func overHead(h []api.Pair) {
	h = h[:cap(h)]
	for at := range h {
		h[at] = api.Pair{Key: "over", Kind: 1, Text: "written over"}
	}
}

// overDeeds: deeds are written over, spare room included.
func overDeeds(l []deed.Deed) {
	l = l[:cap(l)]
	for at := range l {
		overHead(l[at].Mail.Head)
		overHead(l[at].Bind.Want)
		l[at] = deed.Deed{Kind: 77, Name: "over"}
	}
}

// overReplies: replies are written over, spare room included.
func overReplies(l []reply.Reply) {
	l = l[:cap(l)]
	for at := range l {
		overHead(l[at].Mail.Head)
		l[at] = reply.Reply{Kind: 77, Name: "over"}
	}
}

// Memory: what is handed in is neither changed nor kept, and what is told may be written to.
func TestWrittenOver(t *testing.T) {
	for _, kind := range []uint8{method.Put, method.Bind, method.Lift, method.Unbind, method.Unlift} {
		for _, w := range []twin{begun(t, 1), begun(t, 1).says(t, drafts)} {
			m := each(1)[kind]
			m.Head = pairs()
			s, told, deeds, _ := w.s.Plan(m, 5)
			if got := m.Head[:4]; got[0].Key != "x" || got[1].Key != "y" || got[2].Key != "" || got[3].Key != "" {
				t.Errorf("%v", got)
			}
			as := m
			as.Head = pairs()
			p, _, want, _ := w.p.plan(as, 5)
			overHead(m.Head)
			if !sameDeeds(deeds, want) {
				t.Errorf("%+v, wanted %+v", deeds, want)
			}
			overDeeds(deeds)
			overReplies(told)
			shows(t, "handed in", s, p)
			asks(t, "handed in", s, p, commit)
			asks(t, "handed in", s, p, as)
		}
	}
	w := begun(t, 1).says(t, method.Method{Channel: 1, Kind: method.Take, Name: "q", N: 1}).lent(t, 1, 4, 2)
	x := line.Item{Mail: api.Mail{ID: 9, Shop: "a", Head: pairs()}}
	s, r := w.s.Sent(Taker{1, 1, "q"}, x)
	l := []store.Result{{Item: line.Item{Mail: api.Mail{ID: 8, Shop: "a", Head: pairs()}}}}
	more, told := s.Told(get, l, api.OK)
	overHead(x.Mail.Head)
	overHead(l[0].Item.Mail.Head)
	if !slices.Equal(r.Mail.Head, pairs()) || len(told) != 1 || !slices.Equal(told[0].Mail.Head, pairs()) {
		t.Errorf("%+v, %+v", r, told)
	}
	overReplies(told)
	takers, end := more.Takers(), []deed.Deed{settle(4, 2), settle(2, 2), settle(9, 2), settle(8, 2)}
	for at := range takers[:cap(takers)] {
		takers[:cap(takers)][at] = Taker{4, 99, "over"}
	}
	for range 2 {
		_, l := more.End(5)
		_, _, c, _ := more.Plan(closes, 5)
		_, _, u, _ := more.Plan(settles(8, 2, true), 5)
		if !sameDeeds(l, end) || !sameDeeds(c, end) || !sameDeeds(u, end) || len(more.Takers()) != 1 || more.Takers()[0] != (Taker{1, 1, "q"}) {
			t.Errorf("%+v, %+v, %+v, %v", l, c, u, more.Takers())
		}
		overDeeds(l)
		overDeeds(c)
		overDeeds(u)
	}
	drafted := w.says(t, drafts, sends, settles(2, 0, true))
	for range 2 {
		_, _, l, _ := drafted.s.Plan(commit, 5)
		if !sameDeeds(l, []deed.Deed{sent(), settle(4, 0), settle(2, 0)}) {
			t.Errorf("%+v", l)
		}
		overDeeds(l)
	}
}

// thrown: a method by chance; most that may come now.
func thrown(r *rand.Rand, ids []uint64) method.Method {
	channel := one[uint8](r, 1, 1, 1, 1, 2, 2, 2, 3, 4, 5, 0)
	m := each(channel)[one(r, 0, 1, 1, 1, 2, 3, 4, 5, 6, 7, 8, 9, 10, 11, 11, 11, 12, 13, 14, 15, 15, 15, 15, 16, 16, 16, 16, 17, 18, 19, 19, 20)]
	switch m.Kind {
	case method.Hello:
		m.Channel = one[uint8](r, 0, 1)
	case method.Credit, method.Take, method.Leave:
		m.N = one[uint64](r, 0, 1, 2, 3, 5, 16, 17, 256)
	case method.Settle:
		m.N, m.M, m.Yes = one(r, append(ids, 0, 1)...), uint64(r.Intn(4)), r.Intn(2) == 0
	case method.Put:
		m.M, m.Body = one[uint64](r, 0, 1, 4, most), strings.Repeat("b", r.Intn(5))
	case method.Get:
		m.Name = one(r, "q", "u")
	}
	return m
}

// P28.1 to P28.4: long rows of calls, held against the chapter's words; all that were left behind are as they were at the end.
func TestRows(t *testing.T) {
	codes, told := map[api.Errno]int{}, map[uint8]int{}
	for seed := range int64(15) {
		r := rand.New(rand.NewSource(seed))
		w := begun(t, 1, 2)
		if seed%5 == 0 {
			w = fresh()
		}
		all := []twin{w}
		for n := range uint64(60) {
			var ids []uint64
			_, l := w.p.end(0)
			for _, d := range l {
				ids = append(ids, d.ID)
			}
			switch r.Intn(60) {
			case 0:
				all = append(all, w.end(t, endsOf(w)...))
			case 1, 2, 3, 4, 5, 6, 7, 8, 9, 10, 11, 12:
				to := Taker{one[uint8](r, 0, 1, 2, 3, 4, 5), 7, "q"}
				w = w.sent(t, one(r, append(w.s.Takers(), to)...), line.Item{Mail: api.Mail{ID: 100 + n, Shop: "a", Body: "b"}, Again: r.Intn(2) == 0})
			default:
				more, replies, _, code := w.asked(t, thrown(r, ids), one[uint64](r, 0, 5, most), one(r, api.OK, api.OK, api.OK, api.ErrNone, api.ErrEmpty))
				codes[code]++
				for _, x := range replies {
					told[x.Kind]++
				}
				w = more
			}
			all = append(all, w)
		}
		for _, x := range all {
			tells(t, "at the end", x.s, x.p)
		}
	}
	for _, code := range []api.Errno{api.OK, api.ErrOrder, api.ErrRange} {
		if codes[code] == 0 {
			t.Errorf("no row comes to the error %d", code)
		}
	}
	for _, kind := range []uint8{reply.Done, reply.Refused, reply.Sent, reply.Nothing, reply.Kept, reply.Lost} {
		if told[kind] == 0 {
			t.Errorf("no row is told %d", kind)
		}
	}
}

// endsOf: the deeds with which it should end, at the tick 5.
func endsOf(w twin) []deed.Deed {
	_, l := w.p.end(5)
	return l
}

// place is a place of its own: a store, and the sessions of two clients.
type place struct {
	store    store.Store
	sessions [2]Session
}

// alone: a policy of one place.
func alone() policy.Policy {
	return policy.Policy{Work: 4, Give: 1, Places: []policy.Place{{Name: "low", Bytes: 60000, Base: 1}}, Slots: []int{0}}
}

// group: deeds are done together, or, at an error, none of them.
func (p *place) group(l []deed.Deed) ([]store.Result, api.Errno) {
	s := p.store
	var all []store.Result
	for _, d := range l {
		more, r, code := s.Do(d)
		if code != api.OK {
			return nil, code
		}
		s, all = more, append(all, r)
	}
	p.store = s
	return all, api.OK
}

// says: a client's method comes, and its deeds are done; what is told.
func (p *place) says(client int, m method.Method, tick uint64) ([]reply.Reply, api.Errno) {
	s, told, deeds, code := p.sessions[client].Plan(m, tick)
	p.sessions[client] = s
	if len(deeds) > 0 {
		var behind []reply.Reply
		l, e := p.group(deeds)
		p.sessions[client], behind = s.Told(m, l, e)
		told = append(told, behind...)
	}
	return told, code
}

// gives: a message is handed out to one of a client's takers.
func (p *place) gives(client int, to Taker) {
	if l, code := p.group([]deed.Deed{{Kind: deed.Lend, Name: to.Queue}}); code == api.OK {
		p.sessions[client], _ = p.sessions[client].Sent(to, l[0].Item)
	}
}

// lent: what the store has lent, by its queue.
func (p *place) lent() map[Taker]int {
	all := map[Taker]int{}
	parts := p.store.Parts()
	for _, q := range parts.Stock.Queues() {
		for _, x := range parts.Stock.Line(q.Name).All() {
			if x.Lent {
				all[Taker{Tag: x.Mail.ID, Queue: q.Name}]++
			}
		}
	}
	return all
}

// unsettled: what is unsettled with all clients, by its queue; how much of it there is with each on a channel at most.
func (p *place) unsettled() (map[Taker]int, int) {
	all, greatest := map[Taker]int{}, 0
	for _, s := range p.sessions {
		_, l := s.End(0)
		for _, d := range l {
			all[Taker{Tag: d.ID, Queue: d.Name}]++
		}
		for channel := uint8(1); channel <= 4; channel++ {
			_, _, l, _ := s.Plan(method.Method{Channel: channel, Kind: method.Close}, 0)
			greatest = max(greatest, len(l))
		}
	}
	return all, greatest
}

// made: exchanges and queues, of which one gets what another one loses.
func made(t *testing.T) *place {
	t.Helper()
	p := &place{store: store.New(alone(), 0), sessions: [2]Session{New("low"), New("low")}}
	for client := range 2 {
		for _, m := range []method.Method{
			hello, opens, {Channel: 2, Kind: method.Open}, {Channel: 1, Kind: method.MakeShop, Name: "a", N: 1}, {Channel: 1, Kind: method.MakeShop, Name: "dead", N: 1},
			{Channel: 1, Kind: method.MakeQueue, Name: "q", N: 64, Other: "dead"}, {Channel: 1, Kind: method.MakeQueue, Name: "u", N: 64},
			{Channel: 1, Kind: method.Bind, Name: "a", Other: "q"}, {Channel: 1, Kind: method.Bind, Name: "a", Other: "u"}, {Channel: 1, Kind: method.Bind, Name: "dead", Other: "u"},
		} {
			told, code := p.says(client, m, 0)
			if code != api.OK || len(told) != 1 || told[0].Kind == reply.Refused {
				t.Fatalf("%+v: %+v, %d", m, told, code)
			}
		}
	}
	return p
}

// tame: a method that drops no queue, and makes nothing anew.
func tame(r *rand.Rand, ids []uint64) method.Method {
	for {
		switch m := thrown(r, ids); m.Kind {
		case method.MakeShop, method.DropShop, method.MakeQueue, method.DropQueue, method.Bind, method.Unbind:
		default:
			return m
		}
	}
}

// P28.4: of whatever is asked by two clients of a place, in whatever order: what is unsettled is what the store has lent, each once, and
// there is never more of it on a channel than the greatest credit.
func TestUnsettled(t *testing.T) {
	fullest, settled := 0, 0
	for seed := range int64(150) {
		r := rand.New(rand.NewSource(seed))
		p := made(t)
		for n := range uint64(250) {
			client := r.Intn(2)
			_, l := p.sessions[client].End(0)
			var ids []uint64
			for _, d := range l {
				ids = append(ids, d.ID)
			}
			m := tame(r, ids)
			if takers := p.sessions[client].Takers(); len(takers) > 0 && r.Intn(2) == 0 {
				p.gives(client, one(r, takers...))
			} else if told, _ := p.says(client, m, n); m.Kind == method.Settle && len(told) == 1 && told[0].Kind == reply.Done {
				settled++
			}
			if r.Intn(200) == 0 {
				var l []deed.Deed
				p.sessions[client], l = p.sessions[client].End(n)
				if _, code := p.group(l); code != api.OK {
					t.Fatalf("%d, %d: the end: %d", seed, n, code)
				}
				p.sessions[client], _, _, _ = New("low").Plan(hello, n)
			}
			got, greatest := p.unsettled()
			want := p.lent()
			if len(got) != len(want) || greatest > 16 {
				t.Fatalf("%d, %d: %v, wanted %v, %d", seed, n, got, want, greatest)
			}
			for x, count := range got {
				if count != 1 || want[x] != 1 {
					t.Fatalf("%d, %d: %v, wanted %v", seed, n, got, want)
				}
			}
			fullest = max(fullest, greatest)
		}
	}
	if fullest < 16 || settled < 200 {
		t.Errorf("%d unsettled on a channel at most, %d settled", fullest, settled)
	}
}

// P28.4: as long as messages are handed out to Takers alone, and by Get, there is never more unsettled on a channel than its credit then.
func TestCredit(t *testing.T) {
	for credit := uint64(1); credit <= 16; credit++ {
		p := made(t)
		for range 30 {
			p.says(0, sends, 0)
		}
		p.says(0, method.Method{Channel: 1, Kind: method.Credit, N: credit}, 0)
		for tag := range uint64(4) {
			p.says(0, method.Method{Channel: 1, Kind: method.Take, Name: []string{"q", "u"}[tag%2], N: tag}, 0)
		}
		for n := range uint64(20) {
			if l := p.sessions[0].Takers(); n%3 > 0 && len(l) > 0 {
				p.gives(0, l[n%uint64(len(l))])
			} else {
				p.says(0, get, 0)
			}
			if _, got := p.unsettled(); got != int(min(n+1, credit)) {
				t.Errorf("%d unsettled of %d behind %d", got, credit, n+1)
			}
		}
	}
}

// converse: what a client is told, byte by byte, whose bytes come in these chunks; and with which error it ends.
func converse(chunks ...string) (string, api.Errno) {
	p := &place{store: store.New(alone(), 0), sessions: [2]Session{New("low"), New("low")}}
	var all []reply.Reply
	for tick, chunk := range chunks {
		s, l, code := p.sessions[0].Take(chunk)
		p.sessions[0] = s
		for _, m := range l {
			told, e := p.says(0, m, uint64(tick)/1000)
			all = append(all, told...)
			if e != api.OK {
				return reply.Bytes(all), e
			}
		}
		if code != api.OK {
			return reply.Bytes(all), code
		}
	}
	return reply.Bytes(all), api.OK
}

// P28.1, P28.2: a client's whole talk, in one chunk and in many: it is told the same.
func TestTalk(t *testing.T) {
	row := []method.Method{
		hello, opens, {Channel: 1, Kind: method.MakeShop, Name: "a", N: 1}, {Channel: 1, Kind: method.MakeQueue, Name: "q", N: 3},
		{Channel: 1, Kind: method.Bind, Name: "a", Other: "q"}, sends, get, get, settles(1, 0, true), sure, sends, sends,
		{Channel: 2, Kind: method.Open}, {Channel: 2, Kind: method.Draft}, {Channel: 2, Kind: method.Put, Name: "a", Key: "k"},
		{Channel: 2, Kind: method.Get, Name: "q"}, {Channel: 2, Kind: method.Settle, N: 2}, {Channel: 2, Kind: method.Commit}, get, {Channel: 2, Kind: method.Close}, get, closes,
	}
	var want []uint8
	for _, kind := range []uint8{reply.Welcome, reply.Done, reply.Done, reply.Done, reply.Done, reply.Sent, reply.Nothing, reply.Done, reply.Done, reply.Kept, reply.Kept,
		reply.Done, reply.Done, reply.Sent, reply.Done, reply.Done, reply.Sent, reply.Done, reply.Sent, reply.Done} {
		want = append(want, 64+kind)
	}
	for _, tail := range []struct {
		s string
		e api.Errno
	}{{"", api.OK}, {bytesOf(t, get), api.ErrOrder}, {bytesOf(t, hello) + bytesOf(t, opens), api.ErrOrder}, {framed(t, wrong()[0].f) + bytesOf(t, opens), api.ErrKind}, {"\xff\xff\xff\xff", api.ErrLong}} {
		all := bytesOf(t, row...) + tail.s
		whole, code := converse(all)
		var kinds []uint8
		for rest := whole; rest != ""; {
			length := int(rest[2])<<8 + int(rest[3])
			kinds, rest = append(kinds, rest[1]), rest[9+length:]
		}
		if code != tail.e || !slices.Equal(kinds, want) {
			t.Errorf("%v, %d, wanted %v, %d", kinds, code, want, tail.e)
		}
		for at := range len(all) + 1 {
			if got, e := converse(all[:at], all[at:]); got != whole || e != code {
				t.Fatalf("cut at %d: %q, %d", at, got, e)
			}
			if got, e := converse(all[:at/2], all[at/2:at], all[at:]); got != whole || e != code {
				t.Fatalf("cut at %d and %d: %q, %d", at/2, at, got, e)
			}
		}
	}
}
