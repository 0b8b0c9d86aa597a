package floor

import (
	"math/rand"
	"slices"
	"strconv"
	"strings"
	"testing"

	"stairwell/api"
	"stairwell/deed"
	"stairwell/frame"
	"stairwell/method"
	"stairwell/reply"
	"stairwell/rise"
	"stairwell/store"
)

const whole = 1 << 20 // a cut behind all that waits

// one: one of some, by chance.
func one[T any](r *rand.Rand, l ...T) T { return l[r.Intn(len(l))] }

// tries: a turn that may end with any error, the one that it should.
func (x *pair) tries(t *testing.T, rises ...rise.Rise) api.Errno {
	t.Helper()
	code, wanted := x.f.Turn(x.tick, rises), x.p.turn(x.tick, rises)
	if code != wanted || code != api.OK && code != api.ErrPower {
		t.Fatalf("Turn at %d: %d, wanted %d", x.tick, code, wanted)
	}
	x.tick++
	x.alike(t, "Turn")
	if x.d.Lasts() != x.e.Lasts() {
		t.Fatalf("Turn at %d: what lasts is something else", x.tick-1)
	}
	return code
}

// reopens: the power, which is gone, comes again; what is there then is a beginning of all groups, with all that were committed. False,
// where nothing can be opened any more, as the log has no room.
func (x *pair) reopens(t *testing.T) bool {
	t.Helper()
	may := x.p.may
	x.d.Up()
	x.e.Up()
	f, code := Open(x.policy, x.place, x.d, x.tick)
	p, wanted := plainOpen(x.policy, x.place, x.e, x.tick)
	if code != wanted || code != api.OK && code != api.ErrSpace {
		t.Fatalf("Open: %d, wanted %d", code, wanted)
	}
	if code != api.OK {
		return false
	}
	x.f, x.p = f, p
	x.alike(t, "opened again")
	if !slices.ContainsFunc(may, func(s store.Store) bool {
		woken, _, _ := s.Do(deed.Deed{Kind: deed.Wake, Tick: x.tick})
		return store.Same(woken.Parts(), f.Parts())
	}) {
		t.Fatalf("of %d stores it is none: %s", len(may), shown(f.Parts()))
	}
	if len(f.Clients()) != 0 || len(f.Out()) != 0 {
		t.Fatalf("%v are there", f.Clients())
	}
	return true
}

// P29.2: where a turn begins without power: ErrPower, and nothing is done; all clients are gone, and what was released ahead of that is there.
func TestPowerGone(t *testing.T) {
	x := laid(t, 4, 2, high)
	x.connect(t, 2)
	x.says(t, 1, puts("x"), takes(1, "q", 3))
	x.turn(t, api.OK)
	x.says(t, 1, puts("y"))
	x.says(t, 2, hello)
	x.cut(0, 0)
	lasts := x.d.Lasts()
	x.turn(t, api.ErrPower)
	for range 3 {
		if x.f.Ready() || len(x.f.Clients()) != 0 || x.d.Lasts() != lasts {
			t.Errorf("%v, %v", x.f.Ready(), x.f.Clients())
		}
		x.turn(t, api.ErrPower, risen(t, "z"))
		x.bytes(t, 1, bytesOf(t, hello), api.ErrNone)
		x.gone(t, 1, api.ErrNone)
		x.refuses(t, api.ErrPower)
	}
	x.tells(t, is(1, done(1), sent(1, 3, 9, false, "x")))
	x.tells(t)
	x.d.Up()
	x.e.Up()
	x.turn(t, api.ErrPower) // the vault stays as it is
	x.open(t)
	x.begins(t, 1, 1)
	x.says(t, 1, gets, gets)
	x.turn(t, api.OK)
	x.tells(t, is(1, sent(1, 256, 9, true, "x"), reply.Reply{Channel: 1, Kind: reply.Nothing}))
}

// P29.2: a turn in which nothing is written needs no power: the vault is ready, and tells nothing else.
func TestNothingWritten(t *testing.T) {
	x := laid(t, 4, 2, low)
	x.d.Down(0)
	x.e.Down(0)
	x.says(t, 1, method.Method{Channel: 1, Kind: method.Credit, N: 3})
	x.turn(t, api.OK)
	x.tells(t, is(1, done(1)))
	x.says(t, 1, puts("x"))
	x.turn(t, api.ErrPower)
	x.tells(t)
}

// steps: what a place does turn by turn, in each of which something of each step is done; beside the rises as they are then.
func steps(t *testing.T, x *pair) []func() []rise.Rise {
	t.Helper()
	lives := puts("short")
	lives.M = 2
	low, left := risen(t, "l1", "l2"), risen(t, "f1", "f2", "f3")
	say := func(client uint64, l ...method.Method) {
		for _, m := range l {
			x.f.Bytes(client, bytesOf(t, m))
			x.p.bytes(client, bytesOf(t, m))
		}
	}
	connect := func() {
		x.f.Connect()
		x.p.connect()
	}
	return []func() []rise.Rise{
		func() []rise.Rise { connect(); connect(); say(1, hello, opens, fanout); return nil },
		func() []rise.Rise { say(1, queue("q", 9), binds, sure, puts("1"), lives); return nil },
		func() []rise.Rise { say(2, hello, opens, takes(1, "q", 2)); say(1, puts("2")); return []rise.Rise{low} },
		func() []rise.Rise {
			say(1, method.Method{Channel: 1, Kind: method.MakeShop, Name: "b", N: 4, Other: "right"})
			return []rise.Rise{low, left}
		},
		func() []rise.Rise {
			say(2, settles(9), settles(10), gets)
			say(1, puts(strings.Repeat("b", 200)))
			return nil
		},
		func() []rise.Rise { say(2, drafts, puts("3"), puts("4"), commit); return []rise.Rise{low, left} },
		func() []rise.Rise {
			connect()
			x.f.Gone(2)
			x.p.gone(2)
			say(3, hello)
			x.f.Bytes(3, "\xff\xff\xff\xff")
			x.p.bytes(3, "\xff\xff\xff\xff")
			return nil
		},
		func() []rise.Rise { say(1, gets, gets, puts("5"), puts("6")); return []rise.Rise{low, left} },
	}
}

// P29.3, P3: the power goes at each Sync of all turns, behind so many bytes: what was released is what is released where it doesn't go, up to
// the turn ahead of that; of that turn nothing is; and what is there, when the power comes again, is a beginning, with all that was committed.
func TestEachSync(t *testing.T) {
	for _, blocks := range []int{32, 38, enough} {
		calm := opened(t, ladder(t, 5, 2), high, blocks)
		var want [][]heard
		for _, step := range steps(t, calm) {
			if code := calm.tries(t, step()...); code != api.OK {
				t.Fatal(code)
			}
			want = append(want, calm.out(t))
		}
		syncs := 0
		for went := true; went; syncs++ {
			for _, cut := range []int{0, 1, 2, 7, 16, 17, 33, 64, 80, 100, 129, 170, 230, 300, 400, 512, whole} {
				if went = goes(t, blocks, syncs, cut, want); !went {
					break
				}
			}
		}
		if syncs < len(want) {
			t.Errorf("%d blocks: %d Syncs", blocks, syncs)
		}
	}
}

// goes: the steps, where the power goes at that Sync, behind so many bytes; whether it went.
func goes(t *testing.T, blocks, syncs, cut int, want [][]heard) bool {
	t.Helper()
	x := opened(t, ladder(t, 5, 2), high, blocks)
	x.cut(syncs, cut)
	for at, step := range steps(t, x) {
		if code := x.tries(t, step()...); code == api.OK {
			continue
		}
		x.tells(t, slices.Concat(want[:at]...)...)
		if len(x.f.Clients()) != 0 {
			t.Fatalf("%v are there", x.f.Clients())
		}
		if !x.reopens(t) {
			t.Fatal("the log has no room")
		}
		x.begins(t, 1, 1)
		x.says(t, 1, gets, puts("behind"), takes(1, "q", 1))
		x.tries(t, risen(t, "l1", "l2", "l3"))
		x.out(t)
		return true
	}
	return false
}

// talk is what clients were told of messages: those that were kept, those that were settled, those that were handed out.
type talk struct {
	kept, over, sent map[string]bool
	asked            map[string]bool   // to be settled: that may be done, and not told
	waiting          []string          // numbered Puts without an answer
	settling         []string          // Settles without an answer
	bodies           map[uint64]string // of what is unsettled
	again            int
}

// hears: what was released.
func (w *talk) hears(t *testing.T, l []heard) {
	t.Helper()
	for _, h := range l {
		for _, r := range h.replies {
			body := r.Mail.Body
			switch {
			case h.client == 1 && r.Kind == reply.Kept:
				w.kept[w.waiting[0]] = true
				w.waiting = w.waiting[1:]
			case h.client == 2 && r.Kind == reply.Done:
				w.over[w.settling[0]] = true
				w.settling = w.settling[1:]
			case r.Kind == reply.Sent && (w.over[body] || w.sent[body] && !r.Yes):
				t.Fatalf("%q is handed out: settled %v, handed out %v, marked %v", body, w.over[body], w.sent[body], r.Yes)
			case r.Kind == reply.Sent:
				if w.sent[body] {
					w.again++
				}
				w.sent[body], w.bodies[r.N] = true, body
			default:
				t.Fatalf("%d is told %+v", h.client, r)
			}
		}
	}
}

// begin: two clients begin; one of them puts, the other takes.
func (w *talk) begin(t *testing.T, x *pair) {
	t.Helper()
	x.begins(t, 1, 1)
	x.begins(t, 2, 1)
	x.does(t, 1, sure)
	x.f.Bytes(2, bytesOf(t, takes(1, "q", 1)))
	x.p.bytes(2, bytesOf(t, takes(1, "q", 1)))
	x.turn(t, api.OK)
	l := x.out(t)
	l[0].replies = l[0].replies[1:] // of the Take
	w.waiting, w.settling, w.bodies = nil, nil, map[uint64]string{}
	w.hears(t, l)
}

// settle: some of what is unsettled is settled, at most so many.
func (w *talk) settle(t *testing.T, x *pair, most int) {
	t.Helper()
	ids := make([]uint64, 0, len(w.bodies))
	for id := range w.bodies {
		ids = append(ids, id)
	}
	slices.Sort(ids)
	for _, id := range ids[:min(most, len(ids))] {
		x.says(t, 2, settles(id))
		w.settling = append(w.settling, w.bodies[id])
		w.asked[w.bodies[id]] = true
		delete(w.bodies, id)
	}
}

// P3, P29.3: by what clients are told alone: what was told as kept, and wasn't asked to be settled, is handed out in the end, marked, if it
// was handed out ahead; what was told as settled never is.
func TestLasts(t *testing.T) {
	again, lost := 0, 0
	for seed := range int64(30) {
		r := rand.New(rand.NewSource(seed))
		x := laid(t, 8, 1+int(seed%3), low)
		x.gone(t, 1, api.OK)
		x.turn(t, api.OK)
		x.d.Down(0)
		x.e.Down(0)
		w := &talk{kept: map[string]bool{}, over: map[string]bool{}, sent: map[string]bool{}, asked: map[string]bool{}}
		for life := range 12 {
			x.reopens(t)
			w.begin(t, x)
			x.cut(r.Intn(9), one(r, 0, 1, 30, 64, 65, 100, 200, 400, whole))
			for n := 0; x.d.On() && n < 9; n++ {
				w.settle(t, x, r.Intn(4))
				for m := range r.Intn(4) {
					if x.f.Parts().Stock.Line("q").Len() < 50 {
						body := strings.Join([]string{strconv.Itoa(life), strconv.Itoa(n), strconv.Itoa(m)}, ".")
						x.says(t, 1, puts(body))
						w.waiting = append(w.waiting, body)
					}
				}
				x.tries(t)
				w.hears(t, x.out(t))
			}
			if x.d.On() {
				x.d.Down(r.Intn(3))
				x.e.Down(0)
			} else {
				lost++
			}
		}
		x.reopens(t)
		w.begin(t, x)
		for range 80 {
			w.settle(t, x, 4)
			x.turn(t, api.OK)
			w.hears(t, x.out(t))
		}
		for body := range w.kept {
			if !w.over[body] && !w.asked[body] {
				t.Errorf("%d: %q is lost", seed, body)
			}
		}
		again += w.again
	}
	if again < 50 || lost < 50 {
		t.Errorf("%d handed out again, the power went %d times in turns", again, lost)
	}
}

// thrown: a method by chance.
func thrown(r *rand.Rand, ids []uint64) method.Method {
	m := method.Method{Channel: uint8(1 + r.Intn(2)), Kind: one[uint8](r, 3, 3, 5, 5, 7, 7, 7, 9, 10, 11, 11, 11, 11, 11, 11, 11, 11, 12, 13, 13, 13, 13, 14, 15, 15, 15, 16, 16, 16, 16, 16, 17, 17, 19, 20)}
	switch r.Intn(80) {
	case 0:
		m.Channel = one[uint8](r, 0, 3, 5)
	case 1:
		m.Kind = one[uint8](r, method.DropShop, method.Unbind, method.Close, method.Open, method.Draft)
	case 2:
		m.Kind = method.DropQueue
	}
	switch m.Kind {
	case method.MakeShop:
		m.Name, m.N = one(r, "a", "b"), uint64(r.Intn(5))
		if m.N == 4 {
			m.Name, m.Other = "r", one(r, "low", "left", "right")
		}
	case method.DropShop, method.Lift, method.Unlift, method.Bind, method.Unbind:
		m.Name = one(r, "a", "b", "r")
		if m.Kind == method.Bind || m.Kind == method.Unbind {
			m.Other, m.Key = one(r, "q", "u"), one(r, "", "k", "#")
		} else if m.Kind != method.DropShop {
			m.Other = one(r, "low", "left", "right", "high")
		}
	case method.MakeQueue:
		m.Name, m.N, m.M, m.Other = one(r, "q", "u"), one[uint64](r, 2, 5, 20), one[uint64](r, 0, 3), one(r, "", "b")
	case method.Take, method.Get, method.DropQueue:
		m.Name = one(r, "q", "u")
	case method.Put:
		m.Name, m.Key, m.M, m.Body = one(r, "a", "a", "b", "r"), one(r, "", "k"), one[uint64](r, 0, 0, 2, 4), strings.Repeat("b", r.Intn(9)*r.Intn(9))
	case method.Settle:
		m.N, m.M, m.Yes = one(r, append(ids, 1)...), uint64(r.Intn(3)), r.Intn(4) == 0
	}
	if m.Kind == method.Credit || m.Kind == method.Take || m.Kind == method.Leave {
		m.N = one[uint64](r, 1, 2, 3, 7)
	}
	return m
}

// rows is a floor, and the rises of all places as they grow.
type rows struct {
	*pair
	r     *rand.Rand
	rises []rise.Rise
	begun map[uint64]bool // those that said hello
	told  map[uint8]int   // how often each kind was told
	ids   []uint64        // that were handed out
	went  int
}

// send: some methods of a client, or bytes that are none.
func (w *rows) send(t *testing.T, client uint64) {
	t.Helper()
	var l []method.Method
	if !w.begun[client] {
		l = append(l, hello, opens, method.Method{Channel: 2, Kind: method.Open})
		w.begun[client] = true
	}
	for range w.r.Intn(5) {
		l = append(l, thrown(w.r, slices.Clone(w.ids)))
	}
	chunk := bytesOf(t, l...)
	switch w.r.Intn(80) {
	case 0:
		chunk += "\xff\xff\xff\xff"
	case 1:
		other, _ := frame.Bytes(frame.Frame{Channel: 1, Kind: 40})
		chunk += other
	case 2:
		chunk = strings.Repeat(chunk, 6)
	}
	at := w.r.Intn(len(chunk) + 1)
	w.bytes(t, client, chunk[:at], api.OK)
	w.bytes(t, client, chunk[at:], api.OK)
}

// hears: what was told.
func (w *rows) hears(t *testing.T) {
	t.Helper()
	for _, h := range w.out(t) {
		for _, r := range h.replies {
			w.told[r.Kind]++
			if r.Kind == reply.Sent {
				w.ids = append(w.ids, r.N)
			}
		}
	}
	w.ids = w.ids[max(0, len(w.ids)-12):]
}

// act: something happens; whether it goes on.
func (w *rows) act(t *testing.T) bool {
	t.Helper()
	clients := w.f.Clients()
	switch n := w.r.Intn(60); {
	case n < 5 || len(clients) == 0:
		if len(clients) < 8 {
			w.connect(t, w.p.came+1)
		} else {
			w.refuses(t, api.ErrFull)
		}
	case n < 6:
		w.gone(t, one(w.r, clients...), api.OK)
	case n < 25:
		w.send(t, one(w.r, clients...))
	case n < 30:
		at := w.r.Intn(len(w.rises))
		body := strings.Repeat("r", w.r.Intn(40))
		w.rises[at], _ = w.rises[at].Put(api.Mail{Shop: one(w.r, "a", "b", "none"), Key: one(w.r, "", "k"), Body: body, Hops: uint8(w.r.Intn(5))})
	case n < 31:
		w.cut(w.r.Intn(12), one(w.r, 0, 20, 64, 100, 300, whole))
	case n < 35:
		w.hears(t)
	case w.tries(t, w.rises[:w.r.Intn(6)%len(w.rises)+1]...) != api.OK:
		w.hears(t)
		w.went++
		clear(w.begun)
		return w.reopens(t)
	}
	return true
}

// P29.1 to P29.3: long rows of calls, held against the chapter's words, on disks of all sizes.
func TestRows(t *testing.T) {
	told := map[uint8]int{}
	kinds := map[uint8]int{}
	went := 0
	for seed := range int64(160) {
		r := rand.New(rand.NewSource(seed))
		x := opened(t, ladder(t, 1+r.Intn(8), 1+r.Intn(4)), r.Intn(4), one(r, 14, 20, 30, 44, enough))
		w := &rows{pair: x, r: r, rises: make([]rise.Rise, 4), begun: map[uint64]bool{}, told: told}
		for range 300 {
			if !w.act(t) {
				break
			}
		}
		for _, n := range w.f.Parts().Notes.All() {
			kinds[n.Kind]++
		}
		went += w.went
	}
	for kind := uint8(reply.Welcome); kind <= reply.Bye; kind++ {
		if told[kind] < 100 {
			t.Errorf("%d is told %d times", kind, told[kind])
		}
	}
	for kind := store.Lost; kind <= store.Over; kind++ {
		if kinds[kind] < 100 {
			t.Errorf("%d is noted %d times", kind, kinds[kind])
		}
	}
	if went < 200 {
		t.Errorf("the power went %d times", went)
	}
}

// P29.2: what a floor does hangs on what it was asked alone: two that were asked the same tell the same.
func TestTwice(t *testing.T) {
	for range 3 {
		var all []string
		for range 2 {
			x := opened(t, ladder(t, 5, 2), high, 40)
			for _, step := range steps(t, x) {
				x.tries(t, step()...)
			}
			var s strings.Builder
			for _, o := range x.f.Out() {
				s.WriteString(strconv.FormatUint(o.Client, 10) + ":" + o.Bytes)
			}
			all = append(all, s.String()+shown(x.f.Parts())+x.d.Lasts())
		}
		if all[0] != all[1] {
			t.Error("two are unlike")
		}
	}
}
