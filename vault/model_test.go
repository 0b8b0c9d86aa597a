package vault

import (
	"encoding/binary"
	"hash/crc32"
	"math"
	"math/rand"
	"reflect"
	"slices"
	"strconv"
	"strings"
	"testing"

	"stairwell/api"
	"stairwell/deed"
	"stairwell/disk"
	"stairwell/image"
	"stairwell/mail"
	"stairwell/match"
	"stairwell/policy"
	"stairwell/route"
	"stairwell/stock"
	"stairwell/store"
	"stairwell/wal"
)

const (
	mostRecord = 131072  // bytes of a record
	around     = 9       // bytes more that a record has as it stands
	whole      = 1 << 20 // a cut behind all that waits
	lastGen    = math.MaxUint64
)

// The places of the ladder: from low it flows to all others, from left and right to high.
const (
	low = iota
	left
	right
	high
)

// ladder: a policy of four places, with a round of five ticks.
func ladder(t *testing.T) policy.Policy {
	t.Helper()
	p, line, code := policy.Parse(`work 4
give 2
label low 0 8000 1
label left 1:0 8000 100
label right 1:1 8000 200
label high 2:0:1 8000 9
slot low
slot left
slot right
slot high
slot low
grant high low 2
grant left right 1
grant right left 0
grant high left 16
`)
	if code != api.OK {
		t.Fatalf("line %d: %d", line, code)
	}
	return p
}

// stands: as how many bytes records stand.
func stands(records ...string) int {
	n := 0
	for _, record := range records {
		n += len(record) + around
	}
	return n
}

// headOf: an area's head, of a generation.
func headOf(gen uint64) string {
	front := "STRW" + string(binary.BigEndian.AppendUint64(nil, gen))
	return front + string(binary.BigEndian.AppendUint32(nil, crc32.ChecksumIEEE([]byte(front)))) + "\xa5"
}

// group: deeds as one record.
func group(t *testing.T, l ...deed.Deed) string {
	t.Helper()
	s := string([]byte{byte(len(l))})
	for _, d := range l {
		one, code := d.Bytes()
		if code != api.OK {
			t.Fatalf("%+v: %d", d, code)
		}
		s += one
	}
	return s
}

// bytesOf: a store's image.
func bytesOf(s store.Store) string { return image.Bytes(s.Parts()) }

// plain is a vault, and what its disk tells, as the document's words have them.
type plain struct {
	p      policy.Policy
	place  int
	blocks int

	image  string // with which the log began last; "": none
	logged []string
	gen    uint64
	lasts  store.Store // what comes of these

	none   bool // no vault: it wasn't opened
	broken bool
	s      store.Store
	waits  []string

	off, armed bool
	syncs, cut int // a cut of 0, or of all
}

// row: how many bytes there are for records.
func (p *plain) row() int { return 64 * (p.blocks/2 - 1) }

// room: how many of them are left.
func (p *plain) room() int {
	return p.row() - stands(p.image) - stands(p.logged...) - stands(p.waits...)
}

// sync: what is written is synced; whether it is done, all of it, though the power goes.
func (p *plain) sync() (bool, api.Errno) {
	switch {
	case p.off:
		return false, api.ErrPower
	case p.armed && p.syncs == 0:
		p.off = true
		return p.cut > 0, api.ErrPower
	}
	p.syncs--
	return true, api.OK
}

// begin: the log begins with a store's image.
func (p *plain) begin(s store.Store) api.Errno {
	text := bytesOf(s)
	switch {
	case stands(text) > p.row():
		return api.ErrSpace
	case p.gen == lastGen:
		return api.ErrEnd
	}
	for step := range 3 {
		done, code := p.sync()
		if step == 2 && done {
			p.image, p.logged, p.lasts, p.gen = text, nil, s, p.gen+1
		}
		if code != api.OK {
			p.broken = true
			return code
		}
	}
	p.s, p.waits = s, nil
	return api.OK
}

// open: of a disk on which nothing stands that isn't a vault's.
func (p *plain) open(tick uint64) api.Errno {
	p.none = true
	switch {
	case p.off:
		return api.ErrPower
	case p.blocks < 4:
		return api.ErrRange
	}
	p.broken = false
	s := store.New(p.p, p.place)
	if p.image != "" {
		s, _, _ = p.lasts.Do(deed.Deed{Kind: deed.Wake, Tick: tick})
	}
	code := p.begin(s)
	p.none = code != api.OK
	return code
}

// all: deeds are done together.
func (p *plain) all(t *testing.T, l []deed.Deed) ([]store.Result, int, api.Errno) {
	t.Helper()
	switch {
	case p.none:
		return nil, 0, api.ErrNil
	case p.broken:
		return nil, 0, api.ErrBroken
	case len(l) > 255:
		return nil, 0, api.ErrMany
	}
	s := p.s
	var results []store.Result
	for at, d := range l {
		more, r, code := s.Do(d)
		if code != api.OK {
			return nil, at, code
		}
		s, results = more, append(results, r)
	}
	record := group(t, l...)
	switch {
	case len(record) > mostRecord:
		return nil, 0, api.ErrLong
	case stands(record) <= p.room():
		p.s, p.waits = s, append(p.waits, record)
		return results, 0, api.OK
	}
	if code := p.begin(s); code != api.OK {
		return nil, 0, code
	}
	return results, 0, api.OK
}

func (p *plain) commit() api.Errno {
	switch {
	case p.none:
		return api.ErrNil
	case p.broken:
		return api.ErrBroken
	case len(p.waits) == 0:
		return api.OK
	}
	done, code := p.sync()
	if done {
		p.logged, p.waits, p.lasts = append(p.logged, p.waits...), nil, p.s
	}
	p.broken = code != api.OK
	return code
}

// pair is a disk and its vault, and what they should be.
type pair struct {
	d *disk.Disk
	v *Vault
	p *plain
}

// blank: a new disk, without a vault yet.
func blank(p policy.Policy, place, blocks int) *pair {
	return &pair{d: disk.New(blocks), p: &plain{p: p, place: place, blocks: blocks, none: true}}
}

// begun: a new disk, with a vault.
func begun(t *testing.T, p policy.Policy, place, blocks int) *pair {
	t.Helper()
	x := blank(p, place, blocks)
	x.open(t, 0, api.OK)
	return x
}

// alike: the disk and the vault tell what they should.
func (x *pair) alike(t *testing.T, what string) {
	t.Helper()
	if x.d.On() == x.p.off || x.d.Waits() != 0 || x.v.Ready() != (!x.p.none && !x.p.broken) {
		t.Fatalf("%s: on %v, %d wait, ready %v, wanted %v, %v", what, x.d.On(), x.d.Waits(), x.v.Ready(), !x.p.off, !x.p.none && !x.p.broken)
	}
	if x.p.none {
		isNil(t, what, x.v)
	} else if got, want := image.Bytes(x.v.Parts()), bytesOf(x.p.s); got != want || !store.Same(x.v.Parts(), x.p.s.Parts()) {
		t.Fatalf("%s: %q, wanted %q", what, got, want)
	}
	if !x.p.off && x.p.blocks >= 4 {
		tells(t, what, x.d, x.p.gen, x.p.image, x.p.logged...)
	}
}

// tells: a log on that disk tells that.
func tells(t *testing.T, what string, d *disk.Disk, gen uint64, text string, groups ...string) {
	t.Helper()
	l, told, logged, code := wal.Open(d)
	if code != api.OK || l.Gen() != gen || told != text || !slices.Equal(logged, groups) {
		t.Fatalf("%s: the log tells %d, %d, %q, %q, wanted %d, %q, %q", what, code, l.Gen(), told, logged, gen, text, groups)
	}
}

// open: the vault is opened, with that error.
func (x *pair) open(t *testing.T, tick uint64, want api.Errno) {
	t.Helper()
	v, code := Open(x.p.p, x.p.place, x.d, tick)
	if model := x.p.open(tick); code != want || model != want || (v == nil) != (want != api.OK) {
		t.Fatalf("Open: %v, %d, wanted %d, %d", v != nil, code, model, want)
	}
	x.v = v
	x.alike(t, "Open")
}

// sameResult: do two tell the same?
func sameResult(a, b store.Result) bool {
	return a.Count == b.Count && a.Lost == b.Lost && a.Item.Lent == b.Item.Lent && a.Item.Again == b.Item.Again && mail.Same(a.Item.Mail, b.Item.Mail)
}

// tries: deeds are done together, one alone by Do now and then, whatever comes of it.
func (x *pair) tries(t *testing.T, alone bool, l ...deed.Deed) ([]store.Result, int, api.Errno) {
	t.Helper()
	var got []store.Result
	var at int
	var code api.Errno
	if alone {
		var r store.Result
		if r, code = x.v.Do(l[0]); code == api.OK {
			got = append(got, r)
		} else if !reflect.DeepEqual(r, store.Result{}) {
			t.Fatalf("%+v: %+v beside %d", l, r, code)
		}
	} else {
		got, at, code = x.v.All(l...)
	}
	want, wantAt, wantCode := x.p.all(t, l)
	if code != wantCode || at != wantAt || !slices.EqualFunc(got, want, sameResult) {
		t.Fatalf("%d deeds: %+v, %d, %d, wanted %+v, %d, %d", len(l), got, at, code, want, wantAt, wantCode)
	}
	x.alike(t, "behind deeds")
	return got, at, code
}

// does: deeds are done as one group, without an error: what comes of them.
func (x *pair) does(t *testing.T, l ...deed.Deed) []store.Result {
	t.Helper()
	got, _, code := x.tries(t, false, l...)
	if code != api.OK {
		t.Fatalf("%d deeds: %d", len(l), code)
	}
	return got
}

// each: deeds are done one by one, without an error.
func (x *pair) each(t *testing.T, l ...deed.Deed) {
	t.Helper()
	for _, d := range l {
		if _, _, code := x.tries(t, true, d); code != api.OK {
			t.Fatalf("%+v: %d", d, code)
		}
	}
}

// refuses: of deeds none is done; that error is told, and the place of the one that has it; so it is by Do of one alone.
func (x *pair) refuses(t *testing.T, what string, wantAt int, want api.Errno, l ...deed.Deed) {
	t.Helper()
	before := image.Bytes(x.v.Parts())
	if _, at, code := x.tries(t, false, l...); at != wantAt || code != want {
		t.Errorf("%s: %d, %d, wanted %d, %d", what, at, code, wantAt, want)
	}
	if len(l) == 1 {
		if _, _, code := x.tries(t, true, l...); code != want {
			t.Errorf("%s: %d, wanted %d", what, code, want)
		}
	}
	if image.Bytes(x.v.Parts()) != before {
		t.Errorf("%s: something is done", what)
	}
}

// commit: with that error.
func (x *pair) commit(t *testing.T, want api.Errno) {
	t.Helper()
	if code, model := x.v.Commit(), x.p.commit(); code != want || model != want {
		t.Fatalf("Commit: %d, wanted %d, %d", code, model, want)
	}
	x.alike(t, "Commit")
}

// arm: the power goes at the Sync behind so many others, with nothing done, or all.
func (x *pair) arm(syncs, cut int) {
	x.d.Arm(syncs, cut)
	if !x.p.off {
		x.p.armed, x.p.syncs, x.p.cut = true, syncs, cut
	}
}

func (x *pair) down() {
	x.d.Down(0)
	x.p.off = true
}

func (x *pair) up() {
	x.d.Up()
	if x.p.off {
		x.p.off, x.p.armed = false, false
	}
}

// again: the power goes, and comes; the vault is opened anew.
func (x *pair) again(t *testing.T, tick uint64) {
	t.Helper()
	x.down()
	x.up()
	x.open(t, tick, api.OK)
}

// isNil: a vault that is none answers so.
func isNil(t *testing.T, what string, v *Vault) {
	t.Helper()
	r, do := v.Do(deed.Deed{Kind: deed.Wake})
	l, at, code := v.All(deed.Deed{Kind: 99})
	if do != api.ErrNil || code != api.ErrNil || at != 0 || len(l) != 0 || !reflect.DeepEqual(r, store.Result{}) ||
		v.Commit() != api.ErrNil || v.Ready() || !store.Same(v.Parts(), store.Parts{}) {
		t.Fatalf("%s: %d, %+v, %d, %d, %+v", what, do, r, code, at, l)
	}
}

func newShop(name string, sort uint8, to string) deed.Deed {
	return deed.Deed{Kind: deed.MakeShop, Shop: route.Shop{Name: name, Sort: sort, To: to}}
}

func newQueue(name string, most, life uint64, dead string) deed.Deed {
	return deed.Deed{Kind: deed.MakeQueue, Queue: stock.Queue{Name: name, Most: most, Life: life, Dead: dead}}
}

func bound(shop, to string) deed.Deed {
	return deed.Deed{Kind: deed.Bind, Bind: route.Bind{Shop: shop, To: to}}
}

func boundUp(shop, place string) deed.Deed {
	return deed.Deed{Kind: deed.Bind, Bind: route.Bind{Shop: shop, To: place, Up: true}}
}

func put(shop, body string) deed.Deed {
	return deed.Deed{Kind: deed.Put, Mail: api.Mail{Shop: shop, Body: body}}
}

func lend(queue string) deed.Deed { return deed.Deed{Kind: deed.Lend, Name: queue} }

func settle(queue string, id uint64, how uint8) deed.Deed {
	return deed.Deed{Kind: deed.Settle, Name: queue, ID: id, How: how}
}

// note: as a group it stands as 22 bytes, and the text.
func note(text string) deed.Deed { return deed.Deed{Kind: deed.Note, Code: 99, Text: text} }

// noteSize: as how many bytes a group stands that has a Note without text alone.
const noteSize = 22

// letters: so many of one letter.
func letters(n int) string { return strings.Repeat("t", n) }

// laid: deeds by which left has a fanout a to a queue q, and a release r to right.
func laid() []deed.Deed {
	return []deed.Deed{newQueue("q", 3, 0, ""), newShop("a", match.Fanout, ""), bound("a", "q"), newShop("r", route.Release, "right")}
}

// one: one of some, by chance.
func one[T any](r *rand.Rand, l ...T) T { return l[r.Intn(len(l))] }

// thrownMail: a message by chance.
func thrownMail(r *rand.Rand, shop string, tick uint64) api.Mail {
	m := api.Mail{ID: r.Uint64(), Shop: shop, Key: one(r, "", "k", "k.l"), Body: strings.Repeat("b", r.Intn(30)), Due: one(r, 0, 0, tick+uint64(r.Intn(5))), Hops: uint8(r.Intn(5))}
	if r.Intn(2) == 0 {
		m.Head = []api.Pair{{Key: "x", Kind: 1, Text: "text"}, {Key: "y", Num: -1}}
	}
	return m
}

// thrown: a deed by chance, of any kind, at that tick, such as may be done to that store.
func thrown(r *rand.Rand, s store.Store, tick uint64) deed.Deed {
	shop, queue, place := one(r, "a", "b", "c", "r", "a"), one(r, "q", "u", "high", "q"), one(r, "low", "left", "right", "high")
	d := deed.Deed{Kind: one[uint8](r, 0, 0, 0, 1, 2, 2, 3, 4, 4, 4, 4, 5, 6, 6, 6, 6, 6, 6, 6, 6, 7, 7, 7, 8, 8, 9, 10, 10, 11, 12, 12), Tick: tick}
	switch d.Kind {
	case deed.MakeShop:
		d.Shop = route.Shop{Name: shop, Sort: uint8(r.Intn(4))}
		if r.Intn(3) == 0 {
			d.Shop.Sort, d.Shop.To = route.Release, place
		}
	case deed.DropShop:
		d.Name = one(r, "none", shop, shop)
	case deed.DropQueue:
		d.Name = one(r, "none", queue, queue)
	case deed.MakeQueue:
		d.Queue = stock.Queue{Name: queue, Most: one[uint64](r, 1, 2, 8), Life: uint64(r.Intn(3)), Dead: one(r, "", "a", "b", "r")}
	case deed.Bind, deed.Unbind:
		d.Bind = route.Bind{Shop: shop, To: queue, Key: one(r, "", "k", "*", "#")}
		if r.Intn(3) == 0 {
			d.Bind.To, d.Bind.Up = place, true
		}
	case deed.Put:
		d.Mail = thrownMail(r, shop, tick)
	case deed.Lend:
		d.Name = queue
	case deed.Settle:
		d.Name, d.How = queue, uint8(r.Intn(3))
		if items := s.Parts().Stock.Line(queue).All(); len(items) > 0 {
			d.ID = one(r, items...).Mail.ID
		}
	case deed.Pull:
		d.From, d.Mail = uint8(r.Intn(4)), thrownMail(r, shop, tick)
		d.Number = s.Parts().Seen[d.From] + uint64(r.Intn(3))
	case deed.Note:
		d.Code, d.Text = uint8(r.Intn(256)), "text "+strconv.Itoa(r.Intn(9))
	}
	return d
}

// done: a deed by chance that has no error, and the store behind it.
func done(r *rand.Rand, s store.Store, tick uint64) (deed.Deed, store.Store) {
	for {
		d := thrown(r, s, tick)
		if more, _, code := s.Do(d); code == api.OK {
			return d, more
		}
	}
}
