package broker

import (
	"math"
	"math/rand"
	"slices"
	"strings"
	"testing"

	"stairwell/api"
	"stairwell/floor"
	"stairwell/method"
	"stairwell/policy"
	"stairwell/reply"
	"stairwell/store"
)

// alone: a policy of one place.
func alone() policy.Policy {
	return policy.Policy{Work: 4, Give: 1, Places: []policy.Place{{Name: "low", Bytes: 500, Base: 1}}, Slots: []int{0}}
}

// P30.1 to P30.3: the document's example: Connect at the place 0, of one place: 1; Send of Hello, a Step: Out(0) tells Welcome.
func TestExample(t *testing.T) {
	b, code := New(alone(), 80)
	if code != api.OK || b.Tick() != 0 || !b.Ready(0) {
		t.Fatal(code)
	}
	n, code := b.Do(Event{Kind: Connect})
	if n != 1 || code != api.OK {
		t.Errorf("Connect: %d, %d", n, code)
	}
	if n, code := b.Do(Event{Kind: Send, Client: 1, Chunk: bytesOf(t, hello)}); n != 0 || code != api.OK || len(b.Out(0)) != 0 {
		t.Errorf("Send: %d, %d", n, code)
	}
	if n, code := b.Do(Event{Kind: Step}); n != 0 || code != api.OK || b.Tick() != 1 {
		t.Errorf("Step: %d, %d", n, code)
	}
	l := b.Out(0)
	if len(l) != 1 || l[0].Client != 1 || l[0].Bytes != reply.Bytes([]reply.Reply{{Kind: reply.Welcome, Name: "low"}}) || len(b.Out(0)) != 0 {
		t.Errorf("%+v", l)
	}
}

// Words: the kinds of events.
func TestKinds(t *testing.T) {
	if got := []uint8{Connect, Send, Gone, Step, Arm, Crash}; !slices.Equal(got, []uint8{0, 1, 2, 3, 4, 5}) {
		t.Errorf("%v", got)
	}
}

// P30.1: each place has a disk of so many blocks, and a floor.
func TestNew(t *testing.T) {
	p := ladder(t, "grant high low 2")
	for blocks, want := range map[int]api.Errno{math.MinInt: api.ErrRange, -1: api.ErrRange, 0: api.ErrRange, 3: api.ErrRange, 4: api.ErrSpace, 9: api.ErrSpace,
		10: api.OK, 80: api.OK, 4096: api.OK, 4097: api.OK, math.MaxInt: api.OK} {
		b, code := New(p, blocks)
		if code != want || (b == nil) != (want != api.OK) {
			t.Errorf("%d blocks: %d, wanted %d", blocks, code, want)
			continue
		}
		if want != api.OK {
			continue
		}
		for place := range p.Places {
			d := b.places[place].disk
			if d.Blocks() != min(blocks, 4096) || !d.On() || !b.Ready(place) || len(b.Clients(place)) != 0 || !store.Same(b.Parts(place), store.New(p, place).Parts()) {
				t.Errorf("place %d: %d blocks", place, d.Blocks())
			}
		}
		if b.Tick() != 0 {
			t.Errorf("%d", b.Tick())
		}
	}
}

// P30.1: the policy's Check's error, ahead of a floor's.
func TestNewPolicy(t *testing.T) {
	for at, spoil := range []func(p *policy.Policy) api.Errno{
		func(p *policy.Policy) api.Errno { return api.OK },
		func(p *policy.Policy) api.Errno { p.Work = 0; return api.ErrRange },
		func(p *policy.Policy) api.Errno { p.Give = 17; return api.ErrRange },
		func(p *policy.Policy) api.Errno { p.Places = nil; return api.ErrEmpty },
		func(p *policy.Policy) api.Errno { p.Places[1].Name = "low"; return api.ErrThere },
		func(p *policy.Policy) api.Errno { p.Places[0].Name = "LOW"; return api.ErrForm },
		func(p *policy.Policy) api.Errno { p.Slots = nil; return api.ErrEmpty },
		func(p *policy.Policy) api.Errno { p.Slots[0] = 4; return api.ErrNone },
		func(p *policy.Policy) api.Errno { p.Slots = p.Slots[:4]; return api.ErrEmpty },
		func(p *policy.Policy) api.Errno {
			p.Grants = []policy.Grant{{From: low, To: high}}
			return api.ErrFlow
		},
	} {
		for _, blocks := range []int{0, 4, enough} {
			p := ladder(t)
			want := spoil(&p)
			if want == api.OK && blocks < enough {
				continue
			}
			b, code := New(p, blocks)
			if code != want || (b == nil) != (want != api.OK) {
				t.Errorf("%d, %d blocks: %d, wanted %d", at, blocks, code, want)
			}
		}
	}
}

// P30.2: ErrKind ahead of ErrNone ahead of ErrPower ahead of layer 29's; a Step has no place.
func TestErrors(t *testing.T) {
	x := begun(t, ladder(t), enough)
	x.does(t, Event{Kind: Connect, Place: left}, api.OK)
	x.does(t, Event{Kind: Crash, Place: left}, api.OK)
	x.does(t, Event{Kind: Connect, Place: right}, api.OK)
	for kind := range 256 {
		for _, place := range []int{math.MinInt, -1, low, left, right, high, 4, 16, math.MaxInt} {
			for _, client := range []uint64{0, 1, 9} {
				e := Event{Kind: uint8(kind), Place: place, Client: client, Chunk: "x", A: 100, B: 5}
				want := api.OK
				switch {
				case kind > 5:
					want = api.ErrKind
				case kind == 3:
				case place < 0 || place > 3:
					want = api.ErrNone
				case kind < 3 && place == left:
					want = api.ErrPower
				case kind > 3, kind == 0:
					continue
				case place != right || client != 1:
					want = api.ErrNone
				}
				if kind == 3 || kind == 2 && want == api.OK {
					continue
				}
				if n := x.does(t, e, want); n != 0 {
					t.Errorf("%+v: %d", e, n)
				}
			}
		}
	}
	for _, place := range []int{-1, 0, 7, math.MaxInt} {
		x.does(t, Event{Kind: Step, Place: place}, api.OK)
	}
	for range 7 {
		x.does(t, Event{Kind: Connect, Place: right}, api.OK)
	}
	x.does(t, Event{Kind: Connect, Place: right}, api.ErrFull)
	if n := x.does(t, Event{Kind: Connect, Place: high}, api.OK); n != 1 {
		t.Errorf("%d: each place has numbers of its own", n)
	}
}

// P30.2, P6: at each tick it is the turn of the place that the slots tell, and of no other one: what is asked at all of them is told then.
func TestTurns(t *testing.T) {
	p := ladder(t)
	x := begun(t, p, enough)
	for place := range p.Places {
		x.does(t, Event{Kind: Connect, Place: place}, api.OK)
		x.says(t, place, 1, hello)
	}
	for tick := range 15 {
		x.does(t, Event{Kind: Step, Place: tick % 4}, api.OK)
		for place := range p.Places {
			var want []heard
			if place == p.Slots[tick%5] && tick < 5 && tick != 3 {
				want = append(want, heard{1, reply.Reply{Kind: reply.Welcome, Name: names[place]}})
			} else if place == p.Slots[tick%5] {
				want = append(want, heard{1, reply.Reply{Channel: 1, Kind: reply.Done}})
			}
			x.tells(t, place, want...)
			if want != nil {
				x.says(t, place, 1, []method.Method{opens, {Channel: 1, Kind: method.Close}}[boolOf(x.opened(place))])
			}
		}
	}
}

// boolOf: 1 of true.
func boolOf(b bool) int {
	if b {
		return 1
	}
	return 0
}

// opened: is channel 1 of the client 1 at a place open, where each turn opened it, or closed it?
func (x pair) opened(place int) bool {
	turns := 0
	for tick := range int(x.p.tick) {
		turns += boolOf(x.p.p.Slots[tick%5] == place)
	}
	return turns%2 == 0
}

// P30.4: at a Step nothing changes but in the place whose turn it is: neither what others keep, nor their disks, their clients, what they
// released, what they will do.
func TestOneTurn(t *testing.T) {
	p := ladder(t, "grant high low 2")
	x := begun(t, p, enough)
	x.begins(t, low, fanout, lifts("left"), lifts("high"))
	for _, place := range []int{left, right, high} {
		x.begins(t, place, fanout, queue, binds, takes)
	}
	for tick := range 20 {
		for place := range p.Places {
			x.says(t, place, 1, puts("a", "x"))
		}
		type seen struct {
			parts   store.Parts
			lasts   string
			clients []uint64
			out     int
		}
		var was []seen
		for place := range p.Places {
			was = append(was, seen{x.b.Parts(place), x.b.places[place].disk.Lasts(), x.b.Clients(place), len(x.b.places[place].out)})
		}
		x.steps(t, 1)
		for place, y := range was {
			lasts := x.b.places[place].disk.Lasts()
			if place == p.Slots[tick%5] {
				if lasts == y.lasts {
					t.Errorf("at %d nothing is done at %d", tick, place)
				}
				continue
			}
			if !store.Same(x.b.Parts(place), y.parts) || lasts != y.lasts || !slices.Equal(x.b.Clients(place), y.clients) || len(x.b.places[place].out) != y.out {
				t.Errorf("at %d something changes at %d", tick, place)
			}
		}
	}
}

// P30.2, P2: what is put to a place's rise comes to the place above in its turn; downward by a grant alone, at most its Budget in a round.
func TestRises(t *testing.T) {
	x := begun(t, ladder(t, "grant high low 2"), enough)
	x.begins(t, low, fanout, lifts("left"), lifts("high"), queue, method.Method{Channel: 1, Kind: method.MakeShop, Name: "r", N: 1}, method.Method{Channel: 1, Kind: method.Bind, Name: "r", Other: "q"})
	x.begins(t, left, fanout, queue, binds, takes)
	x.begins(t, right, fanout, queue, binds, takes)
	x.begins(t, high, fanout, queue, binds, takes, releases("r", "low"))
	x.says(t, low, 1, puts("a", "up"))
	x.steps(t, 1) // low
	for _, place := range []int{left, right, high} {
		x.tells(t, place)
	}
	x.steps(t, 1) // high
	x.tells(t, high, sent(1, 7, 9, false, "a", "up"))
	x.tells(t, left)
	x.steps(t, 3)
	x.tells(t, left, sent(1, 7, 100, false, "a", "up"))
	x.tells(t, right)
	x.steps(t, 5)
	x.tells(t, high)
	x.tells(t, left)
	x.says(t, high, 1, puts("r", "1"), puts("r", "2"), puts("r", "3"))
	x.says(t, low, 1, takes)
	x.steps(t, 5)
	x.tells(t, low, heard{1, reply.Reply{Channel: 1, Kind: reply.Done}}, sent(1, 7, 1, false, "r", "1"), sent(1, 7, 2, false, "r", "2"))
	x.tells(t, high, heard{1, reply.Reply{Channel: 1, Kind: reply.Refused, N: uint64(api.ErrGrant)}})
	x.says(t, high, 1, puts("r", "4"))
	x.steps(t, 10)
	x.tells(t, low, sent(1, 7, 3, false, "r", "4"))
	x.tells(t, high)
}

// P30.2: of a place whose power is gone nothing rises, till it has a floor again; then what was committed does.
func TestRisesOfNone(t *testing.T) {
	x := begun(t, ladder(t), enough)
	x.begins(t, low, fanout, lifts("high"))
	x.begins(t, high, fanout, queue, binds, takes)
	x.says(t, low, 1, puts("a", "x"))
	x.steps(t, 1) // low
	x.does(t, Event{Kind: Crash, Place: low}, api.OK)
	x.steps(t, 2) // high, left
	x.tells(t, high)
	x.steps(t, 2) // low, which has a floor again, right
	x.tells(t, high)
	x.steps(t, 2)
	x.tells(t, high, sent(1, 7, 9, false, "a", "x"))
	x.does(t, Event{Kind: Crash, Place: low}, api.OK)
	x.steps(t, 10)
	x.tells(t, high)
}

// P30.2: a disk that is armed loses its power in the place's turn: it has no floor then, till its next turn, which opens one; what was
// released ahead of that is told yet.
func TestArm(t *testing.T) {
	for _, cut := range []int{-5, 0, 1, 64, 100, 1 << 20} {
		x := begun(t, ladder(t), enough)
		x.begins(t, low, fanout, queue, binds)
		x.says(t, low, 1, puts("a", "x"), gets)
		x.steps(t, 1)
		x.does(t, Event{Kind: Arm, Place: low, A: 1, B: cut}, api.OK)
		x.says(t, low, 1, puts("a", "y"))
		x.steps(t, 2)
		x.steps(t, 1) // low: the Sync behind one other isn't come to
		x.says(t, low, 1, puts("a", "z"))
		x.steps(t, 1)
		if !x.b.Ready(low) {
			t.Errorf("cut at %d: the power is gone", cut)
		}
		x.steps(t, 1)
		if x.b.Ready(low) || len(x.b.Clients(low)) != 0 || !store.Same(x.b.Parts(low), store.Parts{}) {
			t.Errorf("cut at %d: the power isn't gone", cut)
		}
		x.does(t, Event{Kind: Connect, Place: low}, api.ErrPower)
		x.does(t, Event{Kind: Send, Place: low, Client: 1}, api.ErrPower)
		x.does(t, Event{Kind: Gone, Place: low, Client: 1}, api.ErrPower)
		x.does(t, Event{Kind: Arm, Place: low}, api.OK) // it is off: nothing
		x.steps(t, 2)
		x.tells(t, low, sent(1, 256, 1, false, "a", "x"))
		x.steps(t, 1)
		if !x.b.Ready(low) || x.b.Tick() != 24 {
			t.Errorf("cut at %d: no floor at %d", cut, x.b.Tick())
		}
		x.begins(t, low)
		x.says(t, low, 1, gets)
		x.steps(t, 3)
		x.tells(t, low, sent(1, 256, 1, true, "a", "x"))
		if got := x.b.Parts(low).Stock.Line("q").Len(); cut < 2 && got != 2 || cut > 1000 && got != 3 { // between, as its record stands
			t.Errorf("cut at %d: %d messages", cut, got)
		}
	}
}

// P30.2: Crash, behind any number of bytes: all that was committed lasts, and between turns nothing waits; the place has no floor till its turn.
func TestCrash(t *testing.T) {
	for _, cut := range []int{math.MinInt, -1, 0, 1, 64, 500, 30000, math.MaxInt} {
		x := begun(t, ladder(t), enough)
		x.begins(t, high, fanout, queue, binds, puts("a", "x"), gets)
		x.says(t, high, 1, gets, puts("a", "y"))
		x.steps(t, 5)
		x.says(t, high, 1, puts("a", "not done"))
		was := x.b.places[high].disk.Lasts()
		for range 2 {
			x.does(t, Event{Kind: Crash, Place: high, A: cut, B: 7}, api.OK)
			if x.b.Ready(high) || x.b.places[high].disk.On() || x.b.places[high].disk.Lasts() != was || len(x.b.Clients(high)) != 0 {
				t.Errorf("cut at %d: something else lasts", cut)
			}
		}
		x.steps(t, 1) // low
		if x.b.Ready(high) || !x.b.Ready(low) || !x.b.Ready(left) || !x.b.Ready(right) {
			t.Error("ready ahead of its turn, or others aren't")
		}
		x.steps(t, 1)
		x.tells(t, high, heard{1, reply.Reply{Channel: 1, Kind: reply.Nothing}}) // of a floor that isn't there any more
		if !x.b.Ready(high) {
			t.Error("not ready")
		}
		x.begins(t, high)
		x.says(t, high, 1, gets, gets, gets)
		x.steps(t, 5)
		x.tells(t, high, sent(1, 256, 9, true, "a", "x"), sent(1, 256, 10, false, "a", "y"), heard{1, reply.Reply{Channel: 1, Kind: reply.Nothing}})
	}
}

// P30.2: a disk that was armed isn't any more, when its power comes again.
func TestDisarmed(t *testing.T) {
	x := begun(t, ladder(t), enough)
	x.does(t, Event{Kind: Arm, Place: low, A: 0, B: 0}, api.OK)
	x.does(t, Event{Kind: Crash, Place: low}, api.OK)
	x.later(t, low)
	x.does(t, Event{Kind: Arm, Place: low, A: -3, B: -3}, api.OK)
	x.does(t, Event{Kind: Arm, Place: low, A: 9, B: 0}, api.OK)
	x.says(t, low, 1, hello)
	x.steps(t, 15)
	if !x.b.Ready(low) || len(x.out(t, low)) != 1 {
		t.Error("the power is gone")
	}
	x.does(t, Event{Kind: Arm, Place: low, A: -3, B: -3}, api.OK)
	x.says(t, low, 1, opens, fanout)
	x.steps(t, 1)
	x.tells(t, low)
	if x.b.Ready(low) {
		t.Error("the power isn't gone")
	}
}

// later: a round, and a client more.
func (x pair) later(t *testing.T, place int) {
	t.Helper()
	x.steps(t, 5)
	x.does(t, Event{Kind: Connect, Place: place}, api.OK)
}

// P30.2: where a floor can't be opened there is none yet, at its turns neither; others have theirs, and the ticks go by.
func TestNoFloor(t *testing.T) {
	x := begun(t, ladder(t), 12)
	for n := range uint64(7) { // seven notes leave no room for an eighth one
		x.does(t, Event{Kind: Connect, Place: low}, api.OK)
		x.says(t, low, n+1, hello)
		x.steps(t, 5)
	}
	if len(x.out(t, low)) != 7 || x.b.Parts(low).Notes.Total() != 7 {
		t.Fatalf("%d notes", x.b.Parts(low).Notes.Total())
	}
	x.does(t, Event{Kind: Crash, Place: low}, api.OK)
	for n := range 15 {
		x.steps(t, 1)
		if x.b.Ready(low) || !x.b.Ready(high) || x.b.Tick() != uint64(36+n) || len(x.b.Out(low)) != 0 || !store.Same(x.b.Parts(low), store.Parts{}) {
			t.Errorf("behind %d", n)
		}
		for _, kind := range []uint8{Connect, Send, Gone} {
			x.does(t, Event{Kind: kind, Place: low, Client: 1}, api.ErrPower)
		}
		if n == 7 {
			x.does(t, Event{Kind: Arm, Place: low}, api.OK)
		}
	}
	x.begins(t, left)
	x.does(t, Event{Kind: Crash, Place: low}, api.OK)
	x.steps(t, 5)
}

// P30.2: at the last tick a Step is ErrEnd, and nothing is done; other events are.
func TestEnd(t *testing.T) {
	b, code := New(alone(), 80)
	if code != api.OK {
		t.Fatal(code)
	}
	b.Do(Event{Kind: Connect})
	b.Do(Event{Kind: Send, Client: 1, Chunk: bytesOf(t, hello)})
	b.tick = math.MaxUint64 - 1
	if _, code := b.Do(Event{Kind: Step}); code != api.OK || b.Tick() != math.MaxUint64 || len(b.Out(0)) != 1 {
		t.Errorf("%d, %d", code, b.Tick())
	}
	n, _ := b.Parts(0).Notes.Get(1)
	if n.Tick != math.MaxUint64-1 {
		t.Errorf("%+v", n)
	}
	b.Do(Event{Kind: Send, Client: 1, Chunk: bytesOf(t, opens)})
	for range 3 {
		if n, code := b.Do(Event{Kind: Step}); n != 0 || code != api.ErrEnd || b.Tick() != math.MaxUint64 || len(b.Out(0)) != 0 {
			t.Errorf("%d, %d", n, code)
		}
	}
	if n, code := b.Do(Event{Kind: Connect}); n != 2 || code != api.OK {
		t.Errorf("%d, %d", n, code)
	}
	if _, code := b.Do(Event{Kind: Crash}); code != api.OK || b.Ready(0) {
		t.Errorf("%d", code)
	}
	if _, code := b.Do(Event{Kind: Step}); code != api.ErrEnd || b.Ready(0) {
		t.Errorf("%d", code)
	}
}

// P30.3: of places that aren't there, and of nil.
func TestNone(t *testing.T) {
	b, _ := New(alone(), 80)
	var none *Broker
	for _, place := range []int{math.MinInt, -1, 1, 2, 16, math.MaxInt} {
		if b.Out(place) != nil || b.Clients(place) != nil || b.Ready(place) || !store.Same(b.Parts(place), store.Parts{}) {
			t.Errorf("%d is there", place)
		}
	}
	for _, place := range []int{math.MinInt, -1, 0, 1} {
		if none.Out(place) != nil || none.Clients(place) != nil || none.Ready(place) || !store.Same(none.Parts(place), store.Parts{}) {
			t.Errorf("of nil %d is there", place)
		}
		for kind := range 8 {
			if n, code := none.Do(Event{Kind: uint8(kind), Place: place}); n != 0 || code != api.ErrNil {
				t.Errorf("of nil: %d, %d", n, code)
			}
		}
	}
	p := none.Policy()
	if none.Tick() != 0 || p.Work != 0 || p.Give != 0 || p.Places != nil || p.Slots != nil || p.Grants != nil {
		t.Errorf("of nil: %d, %+v", none.Tick(), p)
	}
}

// printed: a policy's text.
func printed(t *testing.T, p policy.Policy) string {
	t.Helper()
	s, code := policy.Print(p)
	if code != api.OK {
		t.Fatal(code)
	}
	return s
}

// overPolicy: a policy's lists are written over, spare room included.
func overPolicy(p policy.Policy) {
	for at := range p.Places[:cap(p.Places)] {
		p.Places[:cap(p.Places)][at] = policy.Place{Name: "over"}
	}
	for at := range p.Slots[:cap(p.Slots)] {
		p.Slots[:cap(p.Slots)][at] = 99
	}
	for at := range p.Grants[:cap(p.Grants)] {
		p.Grants[:cap(p.Grants)][at] = policy.Grant{From: 9, To: 9, Budget: 9}
	}
}

// P30.3, Memory: Policy tells the broker's; what is handed in isn't kept, and what is told may be written to.
func TestWrittenOver(t *testing.T) {
	p := ladder(t, "grant high low 2", "grant left right 1")
	want := printed(t, p)
	b, code := New(p, enough)
	if code != api.OK || printed(t, p) != want {
		t.Fatal(code)
	}
	overPolicy(p)
	if got := printed(t, b.Policy()); got != want {
		t.Errorf("%q", got)
	}
	overPolicy(b.Policy())
	if got := printed(t, b.Policy()); got != want {
		t.Errorf("%q", got)
	}
	x := pair{b, plainNew(t, ladder(t, "grant high low 2", "grant left right 1"), enough)}
	x.begins(t, low, fanout, lifts("high"))
	x.begins(t, high, fanout, queue, binds, takes)
	x.does(t, Event{Kind: Crash, Place: right}, api.OK)
	x.says(t, low, 1, puts("a", "x"))
	x.steps(t, 10)
	clients := x.b.Clients(high)
	for at := range clients[:cap(clients)] {
		clients[:cap(clients)][at] = 99
	}
	x.alike(t, "written over")
	l := x.b.Out(high)
	if len(l) != 1 {
		t.Errorf("%+v", l)
	}
	for at := range l[:cap(l)] {
		l[:cap(l)][at] = floor.Out{Client: 99, Bytes: "over"}
	}
	x.p.out[high] = nil
	x.says(t, low, 1, puts("a", "y"))
	x.steps(t, 5)
	x.tells(t, high, sent(1, 7, 10, false, "a", "y"))
}

// P30.1 to P30.3: long rows of events, held against the chapter's words.
func TestRows(t *testing.T) {
	told := map[uint8]int{}
	codes := map[api.Errno]int{}
	for seed := range int64(60) {
		r := rand.New(rand.NewSource(seed))
		p := ladder(t, "grant high low 2", "grant left right 1", "grant right left 0")
		x := begun(t, p, one(r, 24, 60, enough))
		begun := map[[2]uint64]bool{}
		for _, e := range laid(t, begun) {
			x.does(t, e, api.OK)
		}
		for range 400 {
			e := thrown(t, r, r.Intn(4), begun)
			if r.Intn(3) == 0 {
				e = Event{Kind: Step, Place: r.Intn(9) - 2, Client: 5, A: 3}
			}
			if r.Intn(50) == 0 {
				e.Place = one(r, -1, 4, 99)
			}
			if r.Intn(50) == 0 {
				e.Kind = uint8(r.Intn(9))
			}
			n, code := x.b.Do(e)
			number, wanted := x.p.do(e)
			if n != number || code != wanted {
				t.Fatalf("%+v: %d, %d, wanted %d, %d", e, n, code, number, wanted)
			}
			codes[code]++
			x.alike(t, "in a row")
			if r.Intn(5) == 0 {
				for _, h := range x.out(t, r.Intn(4)) {
					told[h.r.Kind]++
				}
			}
		}
	}
	for _, kind := range []uint8{reply.Welcome, reply.Done, reply.Refused, reply.Sent, reply.Bye} {
		if told[kind] < 100 {
			t.Errorf("%d is told %d times", kind, told[kind])
		}
	}
	for _, code := range []api.Errno{api.OK, api.ErrKind, api.ErrNone, api.ErrPower} {
		if codes[code] < 50 {
			t.Errorf("%d is answered %d times", code, codes[code])
		}
	}
}

// comes: from which places something may come to each, through others, too.
func comes(p policy.Policy, to int) map[int]bool {
	all := map[int]bool{to: true}
	for range p.Places {
		for from := range p.Places {
			for at := range p.Places {
				if all[at] && (p.Flows(from, at) || p.Grant(from, at) >= 0) {
					all[from] = true
				}
			}
		}
	}
	return all
}

// sight: what a place sees of events: of those at it the answers, of each Step what was released there, and how it is then.
func sight(t *testing.T, p policy.Policy, place int, l []Event) ([]string, store.Parts) {
	t.Helper()
	b, code := New(p, 60)
	if code != api.OK {
		t.Fatal(code)
	}
	var all []string
	for _, e := range l {
		n, code := b.Do(e)
		switch {
		case e.Kind == Step:
			var s strings.Builder
			for _, o := range b.Out(place) {
				s.WriteString(string(rune('0'+o.Client)) + o.Bytes)
			}
			for _, n := range b.Clients(place) {
				s.WriteString(string(rune('a' + n)))
			}
			all = append(all, s.String()+string(rune('0'+boolOf(b.Ready(place)))))
		case e.Place == place:
			all = append(all, string(rune(n))+string(rune(code)))
		}
	}
	return all, b.Parts(place)
}

// P30.4, P2: what a place does hangs on nothing that happens at places from which nothing comes to it: without that it tells the same.
func TestNothingComes(t *testing.T) {
	purged := map[int]int{}
	for seed := range int64(40) {
		r := rand.New(rand.NewSource(seed))
		p := ladder(t, "grant left right 2")
		begun := map[[2]uint64]bool{}
		l := laid(t, begun)
		for range 400 {
			l = append(l, thrown(t, r, r.Intn(4), begun))
			if r.Intn(2) == 0 {
				l = append(l, Event{Kind: Step})
			}
		}
		for place := range p.Places {
			from := comes(p, place)
			less := slices.DeleteFunc(slices.Clone(l), func(e Event) bool { return e.Kind != Step && !from[e.Place] })
			purged[place] += len(l) - len(less)
			all, parts := sight(t, p, place, l)
			some, others := sight(t, p, place, less)
			if !slices.Equal(all, some) || !store.Same(parts, others) {
				t.Fatalf("seed %d: place %d sees what happens elsewhere", seed, place)
			}
		}
	}
	if purged[low] < 1000 || purged[left] < 1000 || purged[right] < 1000 || purged[high] != 0 {
		t.Errorf("%v", purged)
	}
}

// P30.4: what comes to a place is seen there.
func TestSomethingComes(t *testing.T) {
	p := ladder(t)
	at := func(place int, l ...method.Method) []Event {
		return []Event{{Kind: Connect, Place: place}, {Kind: Send, Place: place, Client: 1, Chunk: bytesOf(t, l...)}}
	}
	steps := slices.Repeat([]Event{{Kind: Step}}, 15)
	ahead := slices.Concat(at(high, hello, opens, fanout, queue, binds, takes), steps)
	with, _ := sight(t, p, high, slices.Concat(ahead, at(low, hello, opens, fanout, lifts("high"), puts("a", "x")), steps))
	without, _ := sight(t, p, high, slices.Concat(ahead, steps))
	if slices.Equal(with, without) {
		t.Error("nothing comes")
	}
}
