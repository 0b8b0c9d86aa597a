package image

import (
	"encoding/binary"
	"math/rand"
	"reflect"
	"slices"
	"strconv"
	"strings"
	"testing"

	"stairwell/api"
	"stairwell/deed"
	"stairwell/head"
	"stairwell/line"
	"stairwell/mail"
	"stairwell/match"
	"stairwell/notes"
	"stairwell/policy"
	"stairwell/route"
	"stairwell/stock"
	"stairwell/store"
)

// The places of the ladder: from low it flows to all others, from left and right to high.
const (
	low = iota
	left
	right
	high
)

// ladder: a policy of four places, with a round of five ticks.
func ladder(t *testing.T) policy.Policy {
	t.Helper()
	p, line, code := policy.Parse(`work 4
give 2
label low 0 8000 1
label left 1:0 8000 100
label right 1:1 8000 200
label high 2:0:1 8000 9
slot low
slot left
slot right
slot high
slot low
grant high low 2
grant left right 1
grant right left 0
grant high left 16
`)
	if code != api.OK {
		t.Fatalf("line %d: %d", line, code)
	}
	return p
}

// pile is a queue, and its messages.
type pile struct {
	queue stock.Queue
	items []line.Item
}

// climb is a rise to a place: how many came, and those that are kept.
type climb struct {
	place uint8
	total uint64
	kept  []api.Mail
}

// plain is an image as the document's words have it.
type plain struct {
	shops  []route.Shop
	binds  []route.Bind
	next   uint64
	piles  []pile
	climbs []climb
	told   uint64
	notes  []notes.Note
	seen   [16]uint64
	spent  [8]store.Spent
}

// of: what parts tell, when they are asked.
func of(x store.Parts) plain {
	p := plain{shops: x.Book.Shops(), binds: x.Book.Binds(), next: x.Stock.Next(), told: x.Notes.Total(), notes: x.Notes.All(), seen: x.Seen, spent: x.Spent}
	for _, q := range x.Stock.Queues() {
		p.piles = append(p.piles, pile{q, x.Stock.Line(q.Name).All()})
	}
	for place := range 16 {
		if rise := x.Stock.Rise(place); rise.Total() > 0 {
			p.climbs = append(p.climbs, climb{uint8(place), rise.Total(), rise.All()})
		}
	}
	return p
}

// clone: the same, of which each part may be changed.
func (p plain) clone() plain {
	p.shops, p.binds, p.notes = slices.Clone(p.shops), slices.Clone(p.binds), slices.Clone(p.notes)
	p.piles, p.climbs = slices.Clone(p.piles), slices.Clone(p.climbs)
	for at := range p.piles {
		p.piles[at].items = slices.Clone(p.piles[at].items)
	}
	for at := range p.climbs {
		p.climbs[at].kept = slices.Clone(p.climbs[at].kept)
	}
	return p
}

func byteOf(n int) string { return string([]byte{byte(n)}) }

func great(n uint64) string { return string(binary.BigEndian.AppendUint64(nil, n)) }

func text(s string) string { return string(binary.BigEndian.AppendUint16(nil, uint16(len(s)))) + s }

func yes(is bool) string {
	if is {
		return "\x01"
	}
	return "\x00"
}

// pairs: a head's bytes, whether it may be or not.
func pairs(h []api.Pair) string {
	s := byteOf(len(h))
	for _, one := range h {
		s += text(one.Key) + byteOf(int(one.Kind))
		switch one.Kind {
		case 0:
			s += great(uint64(one.Num))
		case 1:
			s += text(one.Text)
		case 2:
			s += byteOf(int(one.Num))
		}
	}
	return s
}

// letter: a message's bytes, whether it may be or not.
func letter(m api.Mail) string {
	return great(m.ID) + text(m.Shop) + text(m.Key) + pairs(m.Head) + text(m.Body) + great(m.Due) + byteOf(int(m.Hops))
}

// book: the exchanges' and the bindings' bytes.
func (p plain) book() string {
	s := byteOf(len(p.shops))
	for _, x := range p.shops {
		s += text(x.Name) + byteOf(int(x.Sort)) + text(x.To)
	}
	s += byteOf(len(p.binds))
	for _, x := range p.binds {
		s += text(x.Shop) + text(x.To) + yes(x.Up) + text(x.Key) + pairs(x.Want) + yes(x.All)
	}
	return s
}

// stock: the stock's bytes.
func (p plain) stock() string {
	var s strings.Builder
	s.WriteString(great(p.next) + byteOf(len(p.piles)))
	for _, x := range p.piles {
		s.WriteString(text(x.queue.Name) + great(x.queue.Most) + great(x.queue.Life) + text(x.queue.Dead) + byteOf(len(x.items)))
		for _, one := range x.items {
			state := 0
			if one.Lent {
				state++
			}
			if one.Again {
				state += 2
			}
			s.WriteString(byteOf(state) + letter(one.Mail))
		}
	}
	s.WriteString(byteOf(len(p.climbs)))
	for _, x := range p.climbs {
		s.WriteString(byteOf(int(x.place)) + great(x.total) + byteOf(len(x.kept)))
		for _, m := range x.kept {
			s.WriteString(letter(m))
		}
	}
	return s.String()
}

// rest: the bytes of all behind the stock.
func (p plain) rest() string {
	s := great(p.told) + byteOf(len(p.notes))
	for _, one := range p.notes {
		s += great(one.Tick) + byteOf(int(one.Kind)) + text(one.Text)
	}
	for _, n := range p.seen {
		s += great(n)
	}
	for _, one := range p.spent {
		s += great(one.Round) + byteOf(one.Count)
	}
	return s
}

// long: a text with its length in four bytes ahead.
func long(s string) string { return string(binary.BigEndian.AppendUint32(nil, uint32(len(s)))) + s }

// bytes: all of it, whether it may be or not.
func (p plain) bytes() string { return p.book() + long(p.stock()) + p.rest() }

// scan goes through bytes.
type scan struct {
	s   string
	bad bool
}

func (i *scan) raw(n int) string {
	if n > len(i.s) {
		i.bad, i.s = true, ""
		return strings.Repeat("\x00", min(n, 300))
	}
	s := i.s[:n]
	i.s = i.s[n:]
	return s
}

func (i *scan) one() int { return int(i.raw(1)[0]) }

func (i *scan) great() uint64 { return binary.BigEndian.Uint64([]byte(i.raw(8))) }

func (i *scan) text(most int) string {
	n := int(binary.BigEndian.Uint16([]byte(i.raw(2))))
	if n > most {
		i.bad = true
		return ""
	}
	return i.raw(n)
}

func (i *scan) yes() bool {
	n := i.one()
	i.bad = i.bad || n > 1
	return n == 1
}

// count: how many there are, of which there may be so many.
func (i *scan) count(most int) int {
	n := i.one()
	if n > most {
		i.bad = true
		return 0
	}
	return n
}

func (i *scan) pairs() []api.Pair {
	var h []api.Pair
	for range i.count(8) {
		one := api.Pair{Key: i.text(16), Kind: uint8(i.one())}
		switch one.Kind {
		case 0:
			one.Num = int64(i.great())
		case 1:
			one.Text = i.text(64)
		case 2:
			one.Num = int64(i.one())
		}
		h = append(h, one)
	}
	i.bad = i.bad || head.Check(h) != api.OK
	return h
}

func (i *scan) letter() api.Mail {
	m := api.Mail{ID: i.great(), Shop: i.text(16), Key: i.text(64), Head: i.pairs(), Body: i.text(256), Due: i.great(), Hops: uint8(i.one())}
	i.bad = i.bad || mail.Check(m) != api.OK
	return m
}

// scanned: what bytes tell, and whether they are bytes of that form.
func scanned(s string) (plain, bool) {
	i, p := &scan{s: s}, plain{}
	for range i.count(255) {
		p.shops = append(p.shops, route.Shop{Name: i.text(16), Sort: uint8(i.one()), To: i.text(16)})
	}
	for range i.count(255) {
		p.binds = append(p.binds, route.Bind{Shop: i.text(16), To: i.text(16), Up: i.yes(), Key: i.text(64), Want: i.pairs(), All: i.yes()})
	}
	size := int(binary.BigEndian.Uint32([]byte(i.raw(4))))
	behind := len(i.s) - size
	p.next = i.great()
	for range i.count(255) {
		x := pile{queue: stock.Queue{Name: i.text(16), Most: i.great(), Life: i.great(), Dead: i.text(16)}}
		for range i.count(255) {
			state := i.count(3)
			x.items = append(x.items, line.Item{Mail: i.letter(), Lent: state&1 > 0, Again: state&2 > 0})
		}
		p.piles = append(p.piles, x)
	}
	for range i.count(16) {
		x := climb{place: uint8(i.one()), total: i.great()}
		for range i.count(16) {
			x.kept = append(x.kept, i.letter())
		}
		p.climbs = append(p.climbs, x)
	}
	i.bad = i.bad || len(i.s) != behind
	p.told = i.great()
	for range i.count(32) {
		p.notes = append(p.notes, notes.Note{Tick: i.great(), Kind: uint8(i.one()), Text: i.text(64)})
	}
	for at := range p.seen {
		p.seen[at] = i.great()
	}
	for at := range p.spent {
		p.spent[at] = store.Spent{Round: i.great(), Count: i.count(16)}
	}
	return p, !i.bad && i.s == ""
}

// size: how many bytes its messages have.
func (p plain) size() int {
	n := 0
	for _, x := range p.piles {
		for _, one := range x.items {
			n += len(letter(one.Mail))
		}
	}
	for _, x := range p.climbs {
		for _, m := range x.kept {
			n += len(letter(m))
		}
	}
	return n
}

// stockMay: may the stock be, of so many bytes?
func (p plain) stockMay(bytes int) bool {
	for _, x := range p.piles {
		if x.queue.Most > 64 || uint64(len(x.items)) > x.queue.Most {
			return false
		}
		for at, one := range x.items {
			if at > 0 && x.items[at-1].Mail.ID >= one.Mail.ID || p.next > 0 && one.Mail.ID >= p.next {
				return false
			}
		}
	}
	last := -1
	for _, x := range p.climbs {
		if int(x.place) <= last || x.place > 15 || x.total == 0 || uint64(len(x.kept)) != min(x.total, 16) {
			return false
		}
		last = int(x.place)
	}
	return p.size() <= bytes
}

// taken: does a new store take each queue, exchange and binding as a new one?
func (p plain) taken(rules policy.Policy, place int) bool {
	s := store.New(rules, place)
	count := func() int {
		x := s.Parts()
		return len(x.Stock.Queues()) + len(x.Book.Shops()) + len(x.Book.Binds())
	}
	var l []deed.Deed
	for _, x := range p.piles {
		l = append(l, deed.Deed{Kind: deed.MakeQueue, Queue: x.queue})
	}
	for _, x := range p.shops {
		l = append(l, deed.Deed{Kind: deed.MakeShop, Shop: x})
	}
	for _, x := range p.binds {
		l = append(l, deed.Deed{Kind: deed.Bind, Bind: x})
	}
	for _, d := range l {
		was := count()
		var code api.Errno
		if s, _, code = s.Do(d); code != api.OK || count() != was+1 {
			return false
		}
	}
	return true
}

// may: are these the bytes of parts that may be?
func may(s string, rules policy.Policy, place int) bool {
	p, ok := scanned(s)
	return ok && p.stockMay(rules.Places[place].Bytes) && uint64(len(p.notes)) == min(p.told, 32) && p.taken(rules, place)
}

// refuses: a text isn't that of parts that may be.
func refuses(t *testing.T, what, s string, p policy.Policy, place int) {
	t.Helper()
	x, code := Read(s, p, place)
	if code != api.ErrForm || !store.Same(x, store.Parts{}) || !reflect.DeepEqual(x.Seen, [16]uint64{}) || x.Spent != [8]store.Spent{} {
		t.Fatalf("%s: %d, %+v, of %x", what, code, x, s)
	}
}

// reads: a text is that of parts that may be.
func reads(t *testing.T, what, s string, p policy.Policy, place int) store.Parts {
	t.Helper()
	x, code := Read(s, p, place)
	if code != api.OK {
		t.Fatalf("%s: %d of %x", what, code, s)
	}
	if got := Bytes(x); got != s {
		t.Fatalf("%s: %x, wanted %x", what, got, s)
	}
	if got := of(x).bytes(); got != s {
		t.Fatalf("%s: it tells %x, wanted %x", what, got, s)
	}
	if x.Stock.Room()+x.Stock.Size() != p.Places[place].Bytes {
		t.Fatalf("%s: room for %d", what, x.Stock.Room())
	}
	return x
}

// decides: whether a text may be is as the document's words have it; whether it may.
func decides(t *testing.T, what, s string, p policy.Policy, place int) bool {
	t.Helper()
	if !may(s, p, place) {
		refuses(t, what, s, p, place)
		return false
	}
	reads(t, what, s, p, place)
	return true
}

// written: the bytes of a store are those, and it is read again of them.
func written(t *testing.T, what string, s store.Store, p policy.Policy, place int) store.Store {
	t.Helper()
	x := s.Parts()
	all := of(x).bytes()
	if got := Bytes(x); got != all {
		t.Fatalf("%s: %x, wanted %x", what, got, all)
	}
	if !may(all, p, place) {
		t.Fatalf("%s: it may not be: %x", what, all)
	}
	again := reads(t, what, all, p, place)
	if !store.Same(again, x) {
		t.Fatalf("%s: other parts: %x", what, all)
	}
	return store.With(p, place, again)
}

// done: a store with deeds done to it, of which none has an error.
func done(t *testing.T, s store.Store, l ...deed.Deed) store.Store {
	t.Helper()
	for _, d := range l {
		var code api.Errno
		if s, _, code = s.Do(d); code != api.OK {
			t.Fatalf("%+v: %d", d, code)
		}
	}
	return s
}

func newShop(name string, sort uint8, to string) deed.Deed {
	return deed.Deed{Kind: deed.MakeShop, Shop: route.Shop{Name: name, Sort: sort, To: to}}
}

func newQueue(name string, most, life uint64, dead string) deed.Deed {
	return deed.Deed{Kind: deed.MakeQueue, Queue: stock.Queue{Name: name, Most: most, Life: life, Dead: dead}}
}

func bound(x route.Bind) deed.Deed { return deed.Deed{Kind: deed.Bind, Bind: x} }

func put(tick uint64, m api.Mail) deed.Deed { return deed.Deed{Kind: deed.Put, Tick: tick, Mail: m} }

// rich: a store of left that has something of all there is.
func rich(t *testing.T, p policy.Policy) store.Store {
	t.Helper()
	want := []api.Pair{{Key: "p", Kind: 2, Num: 1}, {Key: "n", Num: -2}, {Key: "t", Kind: 1, Text: "\x00z"}}
	s := done(t, store.New(p, left),
		newQueue("q", 3, 9, "d"), newQueue("u", 64, 0, ""),
		newShop("f", match.Fanout, ""), newShop("h", match.Heads, ""), newShop("r", route.Release, "right"), newShop("d", match.Direct, ""), newShop("o", match.Topic, ""),
		bound(route.Bind{Shop: "f", To: "q"}), bound(route.Bind{Shop: "f", To: "high", Up: true}), bound(route.Bind{Shop: "h", To: "u", Want: want, All: true}),
		bound(route.Bind{Shop: "o", To: "q", Key: "a.*.#"}), bound(route.Bind{Shop: "d", To: "u", Key: "k"}),
		put(6, api.Mail{Shop: "f", Key: "k", Head: want, Body: "xyz", Due: 11, Hops: 2}), put(7, api.Mail{Shop: "h", Head: want, Body: "\xff"}), put(8, api.Mail{Shop: "r", Body: "out"}),
		deed.Deed{Kind: deed.Lend, Name: "q"}, deed.Deed{Kind: deed.Wake, Tick: 9}, deed.Deed{Kind: deed.Lend, Name: "q"}, put(9, api.Mail{Shop: "f"}),
		deed.Deed{Kind: deed.Pull, Tick: 9, From: low, Number: 5, Mail: api.Mail{Shop: "f"}}, deed.Deed{Kind: deed.Pull, Tick: 9, From: high, Number: 1 << 60, Mail: api.Mail{Shop: "d", Key: "k"}},
		deed.Deed{Kind: deed.Note, Tick: 10, Code: 200, Text: "\x00 any"})
	return s
}

// one: one of some, by chance.
func one[T any](r *rand.Rand, l ...T) T { return l[r.Intn(len(l))] }

// thrownHead: a head by chance.
func thrownHead(r *rand.Rand) []api.Pair {
	var h []api.Pair
	for _, key := range []string{"x", "y"} {
		if r.Intn(3) == 0 {
			h = append(h, api.Pair{Key: key, Kind: one[uint8](r, 0, 2), Num: int64(r.Intn(2))})
		}
	}
	return h
}

// thrown: a deed by chance, of any kind, at that tick, such as may be done to that store.
func thrown(r *rand.Rand, s store.Store, tick uint64) deed.Deed {
	shop, queue, place := one(r, "a", "b", "c", "r", "a"), one(r, "q", "u", "high", "q"), one(r, "low", "left", "right", "high")
	m := api.Mail{ID: r.Uint64(), Shop: shop, Key: one(r, "", "k", "k.l"), Head: thrownHead(r), Body: strings.Repeat("b", r.Intn(20)), Due: one(r, 0, tick+uint64(r.Intn(5))), Hops: uint8(r.Intn(5))}
	d := deed.Deed{Kind: one[uint8](r, 0, 0, 0, 1, 2, 2, 3, 4, 4, 4, 4, 5, 6, 6, 6, 6, 6, 6, 6, 6, 7, 7, 7, 8, 8, 9, 10, 10, 11, 12), Tick: tick}
	switch d.Kind {
	case deed.MakeShop:
		d.Shop = route.Shop{Name: shop, Sort: uint8(r.Intn(4))}
		if r.Intn(3) == 0 {
			d.Shop.Sort, d.Shop.To = route.Release, place
		}
	case deed.DropShop:
		d.Name = one(r, "none", "none", shop)
	case deed.DropQueue:
		d.Name = one(r, "none", "none", queue)
	case deed.MakeQueue:
		d.Queue = stock.Queue{Name: queue, Most: one[uint64](r, 1, 2, 64), Life: uint64(r.Intn(3)), Dead: one(r, "", "a", "b", "r")}
	case deed.Bind, deed.Unbind:
		d.Bind = route.Bind{Shop: shop, To: queue, Key: one(r, "", "k", "*", "#"), Want: thrownHead(r), All: r.Intn(2) == 0}
		if r.Intn(3) == 0 {
			d.Bind.To, d.Bind.Up = place, true
		}
	case deed.Put:
		d.Mail = m
	case deed.Lend:
		d.Name = queue
	case deed.Settle:
		d.Name, d.How = queue, uint8(r.Intn(3))
		if items := s.Parts().Stock.Line(queue).All(); len(items) > 0 {
			d.ID = one(r, items...).Mail.ID
		}
	case deed.Pull:
		d.From, d.Mail = uint8(r.Intn(4)), m
		d.Number = s.Parts().Seen[d.From] + uint64(r.Intn(3))
	case deed.Note:
		d.Code, d.Text = uint8(r.Intn(256)), "text "+strconv.Itoa(r.Intn(9))
	}
	return d
}
