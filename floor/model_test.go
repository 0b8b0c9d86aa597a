package floor

import (
	"slices"
	"strconv"
	"strings"
	"testing"

	"stairwell/api"
	"stairwell/deed"
	"stairwell/disk"
	"stairwell/feed"
	"stairwell/frame"
	"stairwell/lattice"
	"stairwell/method"
	"stairwell/policy"
	"stairwell/reply"
	"stairwell/rise"
	"stairwell/session"
	"stairwell/store"
	"stairwell/vault"
)

// The places of the ladder: from low it flows to all others, from left and right to high.
const (
	low = iota
	left
	right
	high
)

// enough blocks for any store of the ladder.
const enough = 700

// ladder: a policy of four places, with a round of five ticks.
func ladder(t *testing.T, work, give int) policy.Policy {
	t.Helper()
	p, line, code := policy.Parse("work " + strconv.Itoa(work) + "\ngive " + strconv.Itoa(give) + `
label low 0 9000 1
label left 1:0 9000 100
label right 1:1 9000 200
label high 2:0:1 9000 9
slot low
slot left
slot right
slot high
slot low
grant high low 2
grant left right 1
grant right left 0
grant high left 16
`)
	if code != api.OK {
		t.Fatalf("line %d: %d", line, code)
	}
	return p
}

// guest is a client as the document's words have it.
type guest struct {
	number  uint64
	s       session.Session
	list    []method.Method
	replies []reply.Reply
	fails   bool
	error   api.Errno
	cut     bool
}

// plain is a floor as the document's words have it, on a vault of its own.
type plain struct {
	p      policy.Policy
	place  int
	v      *vault.Vault
	guests []*guest
	came   uint64
	last   uint64
	served map[string][3]uint64
	out    []Out
	may    []store.Store // what may stand on the disk: the store behind each group since the last Commit
}

// plainOpen: without clients.
func plainOpen(p policy.Policy, place int, d *disk.Disk, tick uint64) (*plain, api.Errno) {
	v, code := vault.Open(p, place, d, tick)
	if code != api.OK {
		return nil, code
	}
	return &plain{p: p, place: place, v: v, served: map[string][3]uint64{}, may: []store.Store{store.With(p, place, v.Parts())}}, api.OK
}

// group: deeds are done together.
func (p *plain) group(l ...deed.Deed) ([]store.Result, api.Errno) {
	s := store.With(p.p, p.place, p.v.Parts())
	for _, d := range l {
		s, _, _ = s.Do(d)
	}
	results, _, code := p.v.All(l...)
	if code == api.OK || code == api.ErrPower {
		p.may = append(p.may, s)
	}
	return results, code
}

// note: something is noted.
func (p *plain) note(tick uint64, code uint8, text string) {
	p.group(deed.Deed{Kind: 12, Tick: tick, Code: code, Text: text})
}

// connect: a client more.
func (p *plain) connect() (uint64, api.Errno) {
	if !p.v.Ready() {
		return 0, api.ErrPower
	}
	if len(p.guests) == 8 {
		return 0, api.ErrFull
	}
	p.came++
	p.guests = append(p.guests, &guest{number: p.came, s: session.New(p.p.Places[p.place].Name)})
	return p.came, api.OK
}

// find: the client of a number; nil.
func (p *plain) find(number uint64) *guest {
	for _, g := range p.guests {
		if g.number == number {
			return g
		}
	}
	return nil
}

// bytes: they come from a client.
func (p *plain) bytes(number uint64, chunk string) api.Errno {
	g := p.find(number)
	if g == nil {
		return api.ErrNone
	}
	if g.fails || g.cut {
		return api.OK
	}
	s, l, code := g.s.Take(chunk)
	g.s = s
	full := false
	for _, m := range l {
		if len(g.list) == 16 {
			full = true
		} else {
			g.list = append(g.list, m)
		}
	}
	if full {
		g.fails, g.error = true, api.ErrFull
	} else if code != api.OK {
		g.fails, g.error = true, code
	}
	return api.OK
}

// gone: a client is cut off.
func (p *plain) gone(number uint64) api.Errno {
	g := p.find(number)
	if g == nil {
		return api.ErrNone
	}
	g.cut, g.list = true, nil
	return api.OK
}

// turn: all steps of a turn, as long as there is power.
func (p *plain) turn(tick uint64, rises []rise.Rise) api.Errno {
	for _, step := range []func(){
		func() { p.one(tick) }, func() { p.two(tick, rises) }, func() { p.three(tick) }, func() { p.four(tick) }, func() { p.five(tick) }, func() { p.v.Commit() },
	} {
		if p.v.Ready() {
			step()
		}
	}
	if !p.v.Ready() {
		p.guests = nil
		return api.ErrPower
	}
	p.may = []store.Store{store.With(p.p, p.place, p.v.Parts())}
	var stay []*guest
	for _, g := range p.guests {
		if len(g.replies) > 0 && !g.cut {
			p.out = append(p.out, Out{g.number, reply.Bytes(g.replies)})
		}
		g.replies = nil
		if !g.s.Over() {
			stay = append(stay, g)
		}
	}
	p.guests = stay
	return api.OK
}

// one: Late, if something's time is over.
func (p *plain) one(tick uint64) {
	parts := p.v.Parts()
	for _, q := range parts.Stock.Queues() {
		for _, x := range parts.Stock.Line(q.Name).All() {
			if !x.Lent && x.Mail.Due != 0 && x.Mail.Due <= tick {
				p.group(deed.Deed{Kind: 9, Tick: tick})
				return
			}
		}
	}
}

// mayCome: from that place to this one?
func (p *plain) mayCome(from int) bool {
	if from != p.place && lattice.Under(p.p.Places[from].Label, p.p.Places[p.place].Label) {
		return true
	}
	return slices.ContainsFunc(p.p.Grants, func(g policy.Grant) bool { return g.From == from && g.To == p.place })
}

// above: the first message of a rise above a number.
func above(x rise.Rise, seen uint64) (uint64, api.Mail, bool) {
	all := x.All()
	for at, m := range all {
		if number := x.Total() - uint64(len(all)-at-1); number > seen {
			return number, m, true
		}
	}
	return 0, api.Mail{}, false
}

// two: Pulls.
func (p *plain) two(tick uint64, rises []rise.Rise) {
	pulls := 0
	for from := range p.p.Places {
		if !p.mayCome(from) || from >= len(rises) {
			continue
		}
		for pulls < p.p.Work {
			number, m, ok := above(rises[from], p.v.Parts().Seen[from])
			if !ok {
				break
			}
			pulls++
			if _, code := p.group(deed.Deed{Kind: 10, Tick: tick, From: uint8(from), Number: number, Mail: m}); code != api.OK {
				break
			}
		}
	}
}

// three: methods.
func (p *plain) three(tick uint64) {
	for taken := 0; taken < p.p.Work; taken++ {
		var next *guest
		for _, g := range slices.Concat(p.guests, p.guests) { // those above the last one stand ahead of all others
			if len(g.list) > 0 && (next == nil || g.number > p.last && next.number <= p.last) {
				next = g
			}
		}
		if next == nil || !p.v.Ready() {
			return
		}
		p.last = next.number
		m := next.list[0]
		next.list = next.list[1:]
		p.method(next, m, tick)
	}
}

// method: one is planned, and done.
func (p *plain) method(g *guest, m method.Method, tick uint64) {
	s, told, deeds, code := g.s.Plan(m, tick)
	if code != api.OK {
		g.fails, g.error, g.list = true, code, nil
		return
	}
	g.s, g.replies = s, append(g.replies, told...)
	if m.Kind == 0 {
		p.note(tick, 5, "")
	}
	if len(deeds) == 0 {
		return
	}
	results, code := p.group(deeds...)
	g.s, told = g.s.Told(m, results, code)
	g.replies = append(g.replies, told...)
	if code == api.ErrFlow || code == api.ErrGrant {
		p.note(tick, 4, m.Name)
	}
}

// four: messages are handed out.
func (p *plain) four(tick uint64) {
	for _, q := range p.v.Parts().Stock.Queues() {
		for n := 0; n < p.p.Give; n++ {
			if !p.give(q.Name, tick) {
				break
			}
		}
	}
}

// give: one of a queue is handed out.
func (p *plain) give(queue string, tick uint64) bool {
	var who []*guest
	var takers []session.Taker
	at := -1
	for _, g := range p.guests {
		if g.fails || g.cut {
			continue
		}
		for _, x := range g.s.Takers() {
			if x.Queue != queue {
				continue
			}
			last := p.served[queue]
			greater := g.number > last[0] || g.number == last[0] && (uint64(x.Channel) > last[1] || uint64(x.Channel) == last[1] && x.Tag > last[2])
			if greater && at < 0 {
				at = len(who)
			}
			who, takers = append(who, g), append(takers, x)
		}
	}
	if len(who) == 0 {
		return false
	}
	results, code := p.group(deed.Deed{Kind: 7, Tick: tick, Name: queue})
	if code != api.OK {
		return false
	}
	at = max(at, 0)
	p.served[queue] = [3]uint64{who[at].number, uint64(takers[at].Channel), takers[at].Tag}
	s, r := who[at].s.Sent(takers[at], results[0].Item)
	who[at].s, who[at].replies = s, append(who[at].replies, r)
	return true
}

// five: sessions end.
func (p *plain) five(tick uint64) {
	for _, g := range p.guests {
		if !g.cut && (!g.fails || len(g.list) > 0) {
			continue
		}
		begun := g.s.Begun()
		s, deeds := g.s.End(tick)
		g.s = s
		if len(deeds) > 0 {
			p.group(deeds...)
		}
		if begun {
			p.note(tick, 6, "")
		}
		if g.fails {
			g.replies = append(g.replies, reply.Reply{Kind: 7, N: uint64(g.error)})
		}
	}
}

// pair is a floor, and what it should be, each on a disk of its own, at a tick.
type pair struct {
	f      *Floor
	p      *plain
	d, e   *disk.Disk
	policy policy.Policy
	place  int
	tick   uint64
}

// opened: on new disks.
func opened(t *testing.T, p policy.Policy, place, blocks int) *pair {
	t.Helper()
	x := &pair{d: disk.New(blocks), e: disk.New(blocks), policy: p, place: place}
	x.open(t)
	return x
}

// open: on the disks, whose power is there again.
func (x *pair) open(t *testing.T) {
	t.Helper()
	x.d.Up()
	x.e.Up()
	f, code := Open(x.policy, x.place, x.d, x.tick)
	p, wanted := plainOpen(x.policy, x.place, x.e, x.tick)
	if code != api.OK || wanted != api.OK {
		t.Fatalf("Open: %d, wanted %d", code, wanted)
	}
	x.f, x.p = f, p
	x.alike(t, "opened")
}

// alike: the floor is as it should be.
func (x *pair) alike(t *testing.T, what string) {
	t.Helper()
	var clients []uint64
	for _, g := range x.p.guests {
		clients = append(clients, g.number)
	}
	if got := x.f.Clients(); !slices.Equal(got, clients) {
		t.Fatalf("%s: clients %v, wanted %v", what, got, clients)
	}
	if x.f.Ready() != x.p.v.Ready() || x.d.On() != x.e.On() {
		t.Fatalf("%s: %v, %v, wanted %v, %v", what, x.f.Ready(), x.d.On(), x.p.v.Ready(), x.e.On())
	}
	if !store.Same(x.f.Parts(), x.p.v.Parts()) {
		t.Fatalf("%s: other parts:\n%s\nwanted\n%s", what, shown(x.f.Parts()), shown(x.p.v.Parts()))
	}
}

// shown: the notes of parts, and how many messages there are.
func shown(x store.Parts) string {
	var s strings.Builder
	for _, n := range x.Notes.All() {
		s.WriteString(strconv.FormatUint(n.Tick, 10) + ":" + strconv.Itoa(int(n.Kind)) + ":" + n.Text + " ")
	}
	for _, q := range x.Stock.Queues() {
		s.WriteString(q.Name + ":" + strconv.Itoa(x.Stock.Line(q.Name).Len()) + ":" + strconv.Itoa(x.Stock.Line(q.Name).Ready()) + " ")
	}
	return s.String()
}

// connect: a client more, whose number is that.
func (x *pair) connect(t *testing.T, want uint64) {
	t.Helper()
	got, code := x.f.Connect()
	number, wanted := x.p.connect()
	if got != number || code != wanted || got != want || code != api.OK {
		t.Fatalf("Connect: %d, %d, wanted %d, %d (%d)", got, code, number, wanted, want)
	}
	x.alike(t, "Connect")
}

// refuses: no client more.
func (x *pair) refuses(t *testing.T, want api.Errno) {
	t.Helper()
	got, code := x.f.Connect()
	_, wanted := x.p.connect()
	if got != 0 || code != want || wanted != want {
		t.Fatalf("Connect: %d, %d, wanted %d", got, code, want)
	}
	x.alike(t, "refused")
}

// bytes: they come from a client.
func (x *pair) bytes(t *testing.T, client uint64, chunk string, want api.Errno) {
	t.Helper()
	code, wanted := x.f.Bytes(client, chunk), x.p.bytes(client, chunk)
	if code != wanted || code != want {
		t.Fatalf("Bytes of %d: %d, wanted %d, %d", client, code, wanted, want)
	}
	x.alike(t, "Bytes")
}

// says: methods come from a client.
func (x *pair) says(t *testing.T, client uint64, l ...method.Method) {
	t.Helper()
	x.bytes(t, client, bytesOf(t, l...), api.OK)
}

// gone: a client is cut off.
func (x *pair) gone(t *testing.T, client uint64, want api.Errno) {
	t.Helper()
	code, wanted := x.f.Gone(client), x.p.gone(client)
	if code != wanted || code != want {
		t.Fatalf("Gone of %d: %d, wanted %d, %d", client, code, wanted, want)
	}
	x.alike(t, "Gone")
}

// turn: a turn, at the tick, which is one more then.
func (x *pair) turn(t *testing.T, want api.Errno, rises ...rise.Rise) {
	t.Helper()
	code, wanted := x.f.Turn(x.tick, rises), x.p.turn(x.tick, rises)
	if code != wanted || code != want {
		t.Fatalf("Turn at %d: %d, wanted %d, %d", x.tick, code, wanted, want)
	}
	x.tick++
	x.alike(t, "Turn")
	if x.d.Lasts() != x.e.Lasts() {
		t.Fatalf("Turn at %d: what lasts is something else", x.tick-1)
	}
}

// heard is what a client was told in a turn.
type heard struct {
	client  uint64
	replies []reply.Reply
}

// out: what was released, which is what should have been.
func (x *pair) out(t *testing.T) []heard {
	t.Helper()
	got := x.f.Out()
	if !slices.Equal(got, x.p.out) {
		t.Fatalf("Out: %+v, wanted %+v", got, x.p.out)
	}
	x.p.out = nil
	var l []heard
	for _, o := range got {
		l = append(l, heard{o.Client, repliesOf(t, o.Bytes)})
	}
	return l
}

// repliesOf: the replies whose bytes these are.
func repliesOf(t *testing.T, s string) []reply.Reply {
	t.Helper()
	in, frames := feed.Feed{}.Take(s)
	if in.Rest() != "" || in.Err() != api.OK || len(frames) == 0 {
		t.Fatalf("%q: no replies", s)
	}
	var l []reply.Reply
	for _, f := range frames {
		r, code := reply.Of(f)
		if code != api.OK {
			t.Fatalf("%+v: %d", f, code)
		}
		l = append(l, r)
	}
	return l
}

// tells: just this was released since it was asked last.
func (x *pair) tells(t *testing.T, want ...heard) {
	t.Helper()
	got := x.out(t)
	if !slices.EqualFunc(got, want, func(a, b heard) bool {
		return a.client == b.client && slices.EqualFunc(a.replies, b.replies, reply.Same)
	}) {
		t.Fatalf("told %+v, wanted %+v", got, want)
	}
}

// bytesOf: the bytes of methods' frames.
func bytesOf(t *testing.T, l ...method.Method) string {
	t.Helper()
	var all strings.Builder
	for _, m := range l {
		f, code := m.Frame()
		if code != api.OK {
			t.Fatalf("%+v: %d", m, code)
		}
		s, _ := frame.Bytes(f)
		all.WriteString(s)
	}
	return all.String()
}

// begins: a client more, of that number, that has begun, with these channels open; what it was told isn't looked at.
func (x *pair) begins(t *testing.T, number uint64, channels ...uint8) {
	t.Helper()
	x.connect(t, number)
	l := []method.Method{hello}
	for _, channel := range channels {
		l = append(l, method.Method{Channel: channel, Kind: method.Open})
	}
	x.does(t, number, l...)
}

// does: a client's methods come, and are done, none of them refused; what is told isn't looked at.
func (x *pair) does(t *testing.T, client uint64, l ...method.Method) {
	t.Helper()
	for _, m := range l {
		x.says(t, client, m)
		x.turn(t, api.OK)
		for _, h := range x.out(t) {
			for _, r := range h.replies {
				if r.Kind == reply.Refused || r.Kind == reply.Bye {
					t.Fatalf("%+v: %+v", m, r)
				}
			}
		}
	}
}

// notes: just these came since there were so many, each its kind and its text.
func (x *pair) notes(t *testing.T, since uint64, want ...string) {
	t.Helper()
	n := x.f.Parts().Notes
	var got []string
	for number := since + 1; number <= n.Total(); number++ {
		one, _ := n.Get(number)
		got = append(got, strconv.Itoa(int(one.Kind))+one.Text)
	}
	if !slices.Equal(got, want) {
		t.Fatalf("notes %q, wanted %q", got, want)
	}
}

// total: how many notes came.
func (x *pair) total() uint64 { return x.f.Parts().Notes.Total() }

// risen: a rise to which messages of the exchange a came, with these bodies.
func risen(t *testing.T, bodies ...string) rise.Rise {
	t.Helper()
	var x rise.Rise
	for _, body := range bodies {
		more, code := x.Put(api.Mail{Shop: "a", Key: "k", Body: body})
		if code != api.OK {
			t.Fatal(code)
		}
		x = more
	}
	return x
}

// hello and others: methods, on channel 1.
var (
	hello  = method.Method{Kind: method.Hello, N: 1}
	opens  = method.Method{Channel: 1, Kind: method.Open}
	closes = method.Method{Channel: 1, Kind: method.Close}
	fanout = method.Method{Channel: 1, Kind: method.MakeShop, Name: "a", N: 1}
	binds  = method.Method{Channel: 1, Kind: method.Bind, Name: "a", Other: "q"}
	sure   = method.Method{Channel: 1, Kind: method.Sure}
	drafts = method.Method{Channel: 1, Kind: method.Draft}
	commit = method.Method{Channel: 1, Kind: method.Commit}
	drops  = method.Method{Channel: 1, Kind: method.DropQueue, Name: "q"}
	gets   = method.Method{Channel: 1, Kind: method.Get, Name: "q"}
)

// queue: a MakeQueue on channel 1.
func queue(name string, most uint64) method.Method {
	return method.Method{Channel: 1, Kind: method.MakeQueue, Name: name, N: most}
}

// puts: a Put on channel 1.
func puts(body string) method.Method {
	return method.Method{Channel: 1, Kind: method.Put, Name: "a", Key: "k", Body: body}
}

// takes: a Take.
func takes(channel uint8, queue string, tag uint64) method.Method {
	return method.Method{Channel: channel, Kind: method.Take, Name: queue, N: tag}
}

// settles: a Settle on channel 1 that tells that it is done with.
func settles(id uint64) method.Method {
	return method.Method{Channel: 1, Kind: method.Settle, N: id}
}

// done, refused, bye, sent: replies.
func done(channel uint8) reply.Reply { return reply.Reply{Channel: channel, Kind: reply.Done} }

func refused(channel uint8, e api.Errno) reply.Reply {
	return reply.Reply{Channel: channel, Kind: reply.Refused, N: uint64(e)}
}

func bye(e api.Errno) reply.Reply { return reply.Reply{Kind: reply.Bye, N: uint64(e)} }

func sent(channel uint8, tag, id uint64, again bool, body string) reply.Reply {
	return reply.Reply{Channel: channel, Kind: reply.Sent, N: id, M: tag, Yes: again, Mail: api.Mail{Shop: "a", Key: "k", Body: body}}
}

// is: a client that was told this.
func is(client uint64, l ...reply.Reply) heard { return heard{client, l} }
