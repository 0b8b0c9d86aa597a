package broker

import (
	"math/rand"
	"slices"
	"strings"
	"testing"

	"stairwell/api"
	"stairwell/disk"
	"stairwell/feed"
	"stairwell/floor"
	"stairwell/frame"
	"stairwell/method"
	"stairwell/policy"
	"stairwell/reply"
	"stairwell/rise"
	"stairwell/store"
)

// The places of a ladder: from low it flows to all others, from left and right to high.
const (
	low = iota
	left
	right
	high
)

const enough = 400 // blocks for any store of a ladder

// ladder: a policy of four places, with a round of five ticks, and these grants.
func ladder(t *testing.T, grants ...string) policy.Policy {
	t.Helper()
	p, line, code := policy.Parse(`work 4
give 2
label low 0 4000 1
label left 1:0 4000 100
label right 1:1 4000 200
label high 2:0:1 4000 9
slot low
slot high
slot left
slot low
slot right
` + strings.Join(grants, "\n"))
	if code != api.OK {
		t.Fatalf("line %d: %d", line, code)
	}
	return p
}

// plain is a broker as the document's words have it.
type plain struct {
	p      policy.Policy
	disks  []*disk.Disk
	floors []*floor.Floor // nil: none
	out    [][]floor.Out
	tick   uint64
}

// plainNew: each place has power.
func plainNew(t *testing.T, p policy.Policy, blocks int) *plain {
	t.Helper()
	b := &plain{p: p}
	for place := range p.Places {
		d := disk.New(blocks)
		f, code := floor.Open(p, place, d, 0)
		if code != api.OK {
			t.Fatal(code)
		}
		b.disks, b.floors, b.out = append(b.disks, d), append(b.floors, f), append(b.out, nil)
	}
	return b
}

// do: an event.
func (b *plain) do(e Event) (uint64, api.Errno) {
	if e.Kind > 5 {
		return 0, api.ErrKind
	}
	if e.Kind == 3 {
		b.step()
		return 0, api.OK
	}
	if e.Place < 0 || e.Place > len(b.floors)-1 {
		return 0, api.ErrNone
	}
	f := b.floors[e.Place]
	if e.Kind < 3 && f == nil {
		return 0, api.ErrPower
	}
	switch e.Kind {
	case 0:
		return f.Connect()
	case 1:
		return 0, f.Bytes(e.Client, e.Chunk)
	case 2:
		return 0, f.Gone(e.Client)
	case 4:
		b.disks[e.Place].Arm(e.A, e.B)
	case 5:
		b.disks[e.Place].Down(e.A)
		b.floors[e.Place] = nil
	}
	return 0, api.OK
}

// step: a tick goes by.
func (b *plain) step() {
	place := b.p.Slots[int(b.tick)%len(b.p.Slots)]
	if b.floors[place] == nil {
		if !b.disks[place].On() {
			b.disks[place].Up()
		}
		if f, code := floor.Open(b.p, place, b.disks[place], b.tick); code == api.OK {
			b.floors[place] = f
		}
	}
	if f := b.floors[place]; f != nil {
		rises := make([]rise.Rise, len(b.floors))
		for at, g := range b.floors {
			if g != nil {
				rises[at] = g.Parts().Stock.Rise(place)
			}
		}
		if code := f.Turn(b.tick, rises); code != api.OK {
			b.floors[place] = nil
		}
		b.out[place] = append(b.out[place], f.Out()...)
	}
	b.tick++
}

// pair is a broker, and what it should be.
type pair struct {
	b *Broker
	p *plain
}

// begun: a new one.
func begun(t *testing.T, p policy.Policy, blocks int) pair {
	t.Helper()
	b, code := New(p, blocks)
	if code != api.OK {
		t.Fatal(code)
	}
	x := pair{b, plainNew(t, p, blocks)}
	x.alike(t, "new")
	return x
}

// alike: the broker is as it should be.
func (x pair) alike(t *testing.T, what string) {
	t.Helper()
	if x.b.Tick() != x.p.tick {
		t.Fatalf("%s: tick %d, wanted %d", what, x.b.Tick(), x.p.tick)
	}
	for place, f := range x.p.floors {
		if got := x.b.Ready(place); got != (f != nil) {
			t.Fatalf("%s: place %d: ready %v", what, place, got)
		}
		var clients []uint64
		var parts store.Parts
		if f != nil {
			clients, parts = f.Clients(), f.Parts()
		}
		if got := x.b.Clients(place); !slices.Equal(got, clients) {
			t.Fatalf("%s: place %d: clients %v, wanted %v", what, place, got, clients)
		}
		if !store.Same(x.b.Parts(place), parts) {
			t.Fatalf("%s: place %d: other parts", what, place)
		}
	}
}

// does: an event, and what it is answered.
func (x pair) does(t *testing.T, e Event, want api.Errno) uint64 {
	t.Helper()
	n, code := x.b.Do(e)
	number, wanted := x.p.do(e)
	if n != number || code != wanted || code != want {
		t.Fatalf("%+v: %d, %d, wanted %d, %d (%d)", e, n, code, number, wanted, want)
	}
	x.alike(t, "done")
	return n
}

// steps: so many Steps.
func (x pair) steps(t *testing.T, times int) {
	t.Helper()
	for range times {
		x.does(t, Event{Kind: Step}, api.OK)
	}
}

// says: methods come from a client.
func (x pair) says(t *testing.T, place int, client uint64, l ...method.Method) {
	t.Helper()
	x.does(t, Event{Kind: Send, Place: place, Client: client, Chunk: bytesOf(t, l...)}, api.OK)
}

// heard is what a client was told.
type heard struct {
	client uint64
	r      reply.Reply
}

// out: what was released at a place, which is what should have been.
func (x pair) out(t *testing.T, place int) []heard {
	t.Helper()
	got := x.b.Out(place)
	if !slices.Equal(got, x.p.out[place]) {
		t.Fatalf("place %d: Out: %+v, wanted %+v", place, got, x.p.out[place])
	}
	x.p.out[place] = nil
	var l []heard
	for _, o := range got {
		_, frames := feed.Feed{}.Take(o.Bytes)
		for _, f := range frames {
			r, code := reply.Of(f)
			if code != api.OK {
				t.Fatalf("%+v: %d", f, code)
			}
			l = append(l, heard{o.Client, r})
		}
	}
	return l
}

// tells: just this was released at a place since it was asked last.
func (x pair) tells(t *testing.T, place int, want ...heard) {
	t.Helper()
	got := x.out(t, place)
	if !slices.EqualFunc(got, want, func(a, b heard) bool { return a.client == b.client && reply.Same(a.r, b.r) }) {
		t.Fatalf("place %d: told %+v, wanted %+v", place, got, want)
	}
}

// bytesOf: the bytes of methods' frames.
func bytesOf(t *testing.T, l ...method.Method) string {
	t.Helper()
	var all strings.Builder
	for _, m := range l {
		f, code := m.Frame()
		if code != api.OK {
			t.Fatalf("%+v: %d", m, code)
		}
		s, _ := frame.Bytes(f)
		all.WriteString(s)
	}
	return all.String()
}

// begins: a client more at a place, which has begun, and has channel 1 open; behind a round, of which nothing is looked at.
func (x pair) begins(t *testing.T, place int, l ...method.Method) uint64 {
	t.Helper()
	client := x.does(t, Event{Kind: Connect, Place: place}, api.OK)
	x.says(t, place, client, append([]method.Method{hello, opens}, l...)...)
	x.steps(t, 3*len(x.p.p.Slots))
	for _, h := range x.out(t, place) {
		if h.r.Kind == reply.Refused || h.r.Kind == reply.Bye {
			t.Fatalf("%+v", h)
		}
	}
	return client
}

// hello and others: methods, on channel 1.
var (
	hello  = method.Method{Kind: method.Hello, N: 1}
	opens  = method.Method{Channel: 1, Kind: method.Open}
	fanout = method.Method{Channel: 1, Kind: method.MakeShop, Name: "a", N: 1}
	queue  = method.Method{Channel: 1, Kind: method.MakeQueue, Name: "q", N: 9}
	binds  = method.Method{Channel: 1, Kind: method.Bind, Name: "a", Other: "q"}
	takes  = method.Method{Channel: 1, Kind: method.Take, Name: "q", N: 7}
	gets   = method.Method{Channel: 1, Kind: method.Get, Name: "q"}
)

// lifts: a Lift from the exchange a.
func lifts(place string) method.Method {
	return method.Method{Channel: 1, Kind: method.Lift, Name: "a", Other: place}
}

// releases: an exchange that releases to a place.
func releases(name, place string) method.Method {
	return method.Method{Channel: 1, Kind: method.MakeShop, Name: name, N: 4, Other: place}
}

// puts: a Put to an exchange.
func puts(shop, body string) method.Method {
	return method.Method{Channel: 1, Kind: method.Put, Name: shop, Body: body}
}

// sent: what a client is told of a message that is handed out to it on channel 1.
func sent(client, tag, id uint64, again bool, shop, body string) heard {
	return heard{client, reply.Reply{Channel: 1, Kind: reply.Sent, N: id, M: tag, Yes: again, Mail: api.Mail{Shop: shop, Body: body}}}
}

// one: one of some, by chance.
func one[T any](r *rand.Rand, l ...T) T { return l[r.Intn(len(l))] }

// names: of the places.
var names = []string{"low", "left", "right", "high"}

// thrown: an event by chance, at a place; what a client says begins its session, if that is the first.
func thrown(t *testing.T, r *rand.Rand, place int, begun map[[2]uint64]bool) Event {
	t.Helper()
	e := Event{Place: place, Client: uint64(1 + r.Intn(3))}
	switch n := r.Intn(100); {
	case n < 8:
		e.Kind = Connect
	case n < 10:
		e.Kind = Gone
	case n < 14:
		e.Kind, e.A, e.B = Arm, r.Intn(4), one(r, -1, 0, 40, 64, 200, 1000)
	case n < 16:
		e.Kind, e.A = Crash, one(r, -1, 0, 3, 1000)
	default:
		e.Kind = Send
		var l []method.Method
		if key := [2]uint64{uint64(place), e.Client}; !begun[key] || r.Intn(40) == 0 {
			begun[key] = true
			l = append(l, hello, opens)
		}
		for range r.Intn(4) {
			l = append(l, asked(r))
		}
		e.Chunk = bytesOf(t, l...)
		if r.Intn(60) == 0 {
			e.Chunk += "\xff\xff\xff\xff"
		}
	}
	return e
}

// laid: the events by which each place has a client, the exchange a, the queue q to which that leads, and a taker; and by which what is put
// to a goes up, where it may.
func laid(t *testing.T, begun map[[2]uint64]bool) []Event {
	t.Helper()
	var l []Event
	for place, to := range []string{"left", "high", "high", "low"} {
		begun[[2]uint64{uint64(place), 1}] = true
		chunk := bytesOf(t, hello, opens, fanout, queue, binds, takes, lifts(to))
		l = append(l, Event{Kind: Connect, Place: place}, Event{Kind: Send, Place: place, Client: 1, Chunk: chunk})
	}
	return append(l, slices.Repeat([]Event{{Kind: Step}}, 10)...)
}

// asked: a method by chance.
func asked(r *rand.Rand) method.Method {
	m := one(r, fanout, fanout, queue, queue, binds, takes, gets, gets, lifts(one(r, names...)), lifts("high"), releases("r", one(r, names...)), releases("s", "right"),
		method.Method{Channel: 1, Kind: method.Bind, Name: "r", Other: "q"}, method.Method{Channel: 1, Kind: method.Settle, N: uint64(r.Intn(12)), Yes: true},
		method.Method{Channel: 1, Kind: method.MakeShop, Name: "r", N: 1}, method.Method{Channel: 1, Kind: method.MakeShop, Name: "s", N: 1})
	if r.Intn(2) == 0 {
		m = puts(one(r, "a", "a", "a", "r", "s"), strings.Repeat("b", r.Intn(60)))
	}
	return m
}
