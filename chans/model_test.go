package chans

import (
	"math"
	"slices"
	"strings"
	"testing"

	"stairwell/api"
	"stairwell/deed"
	"stairwell/draft"
)

// most is the greatest number.
const most = math.MaxUint64

// ticks: at which drafts are asked.
var ticks = []uint64{0, 7, most - 7, most}

// hows: how what was lent may be settled, and may not.
var hows = []uint64{0, 1, 2, 3, 255, 256, 257, 258, 1 << 32, most}

// put: a deed that sends a message that lives so long.
func put(body string, life uint64) deed.Deed {
	return deed.Deed{Kind: deed.Put, Mail: api.Mail{Shop: "a", Body: body, Due: life}}
}

// settle: a deed that settles.
func settle(name string, id uint64, how uint8) deed.Deed {
	return deed.Deed{Kind: deed.Settle, Name: name, ID: id, How: how}
}

// plain is a channel as the document's words have it.
type plain struct {
	credit       uint64
	takers       []Taker
	lent         []Lent
	sure, drafts bool
	number       uint64
	held         []deed.Deed
}

// room: by how many the credit is above what is unsettled.
func (p plain) room() int {
	room := 0
	for n := uint64(len(p.lent)); n < p.credit; n++ {
		room++
	}
	return room
}

// has: is a taker of that tag there?
func (p plain) has(tag uint64) bool {
	for _, x := range p.takers {
		if x.Tag == tag {
			return true
		}
	}
	return false
}

// open: is what is unsettled not settled by the draft?
func (p plain) open(x Lent) bool {
	for _, d := range p.held {
		if d.Kind == deed.Settle && d.Name == x.Queue && d.ID == x.ID {
			return false
		}
	}
	return true
}

// settles: the Settles of one that is open, and of those ahead.
func (p plain) settles(id, how uint64, upto bool) ([]deed.Deed, api.Errno) {
	if how != 0 && how != 1 && how != 2 {
		return nil, api.ErrRange
	}
	var ahead []deed.Deed
	for _, x := range p.lent {
		if !p.open(x) {
			continue
		}
		one := settle(x.Queue, x.ID, uint8(how))
		if x.ID == id && upto {
			return append(ahead, one), api.OK
		}
		if x.ID == id {
			return []deed.Deed{one}, api.OK
		}
		ahead = append(ahead, one)
	}
	return nil, api.ErrNone
}

// gone: without what these settle.
func (p plain) gone(l []deed.Deed) plain {
	for _, d := range l {
		var left []Lent
		found := d.Kind != deed.Settle
		for _, x := range p.lent {
			if !found && x.ID == d.ID && x.Queue == d.Name {
				found = true
				continue
			}
			left = append(left, x)
		}
		p.lent = left
	}
	return p
}

// hold: some more deeds wait; where layer 26 has an error none.
func (p plain) hold(l []deed.Deed) (plain, api.Errno) {
	if !p.drafts {
		return p, api.ErrOrder
	}
	all := slices.Concat(p.held, l)
	for at, d := range all {
		all[at].Mail.Head = slices.Clone(d.Mail.Head)
	}
	if _, code := (draft.Draft{}).Add(all...); code != api.OK {
		return p, code
	}
	p.held = all
	return p, api.OK
}

// heldAt: the deeds that wait, at a tick.
func (p plain) heldAt(tick uint64) []deed.Deed {
	l := slices.Clone(p.held)
	for at, d := range l {
		l[at].Tick = tick
		if d.Kind == deed.Put {
			l[at].Mail.Due = draft.Life(tick, d.Mail.Due)
		}
	}
	return l
}

// sameDeeds: are two lists of deeds the same?
func sameDeeds(a, b []deed.Deed) bool { return slices.EqualFunc(a, b, deed.Same) }

// tells: a channel tells in all what it should.
func tells(t *testing.T, what string, c Chan, p plain) {
	t.Helper()
	if got := c.Room(); got != p.room() {
		t.Fatalf("%s: room %d, wanted %d", what, got, p.room())
	}
	if got := c.Takers(); !slices.Equal(got, p.takers) {
		t.Fatalf("%s: takers %v, wanted %v", what, got, p.takers)
	}
	if got := c.Unsettled(); !slices.Equal(got, p.lent) {
		t.Fatalf("%s: unsettled %v, wanted %v", what, got, p.lent)
	}
	if c.Number() != p.number || c.Drafts() != p.drafts {
		t.Fatalf("%s: %d, %v, wanted %d, %v", what, c.Number(), c.Drafts(), p.number, p.drafts)
	}
	for _, tick := range ticks {
		got, code := c.Held(tick)
		if !sameDeeds(got, p.heldAt(tick)) || (code == api.OK) != p.drafts || code != api.OK && code != api.ErrOrder {
			t.Fatalf("%s: held at %d %+v, %d, wanted %+v", what, tick, got, code, p.heldAt(tick))
		}
	}
	tellsSettles(t, what, c, p)
	tellsNext(t, what, c, p)
}

// tellsSettles: it tells the Settles that it should, of each ID that is there, and of others.
func tellsSettles(t *testing.T, what string, c Chan, p plain) {
	t.Helper()
	ids := []uint64{0, 1, 2, 3, most}
	for _, x := range p.lent {
		ids = append(ids, x.ID)
	}
	for _, id := range ids {
		for _, how := range hows {
			for _, upto := range []bool{false, true} {
				got, code := c.Settles(id, how, upto)
				want, wanted := p.settles(id, how, upto)
				if code != wanted || !sameDeeds(got, want) {
					t.Fatalf("%s: of %d, %d, %v %+v, %d, wanted %+v, %d", what, id, how, upto, got, code, want, wanted)
				}
			}
		}
	}
}

// tellsNext: what it tells where it is asked for one thing more is what it should tell, too.
func tellsNext(t *testing.T, what string, c Chan, p plain) {
	t.Helper()
	if all := c.Gone(p.gone(nil).all()...); all.Room() != int(p.credit) || len(all.Unsettled()) != 0 {
		t.Fatalf("%s: a credit of %d, wanted %d", what, all.Room(), p.credit)
	}
	wanted := uint64(0)
	if p.sure {
		wanted = p.number + 1
	}
	if _, number := c.Put(); number != wanted {
		t.Fatalf("%s: the next Put is %d, wanted %d", what, number, wanted)
	}
	if _, code := c.Sure(); (code == api.OK) != !p.drafts {
		t.Fatalf("%s: Sure is %d", what, code)
	}
	if _, code := c.Draft(); (code == api.OK) != (!p.drafts && !p.sure) {
		t.Fatalf("%s: Draft is %d", what, code)
	}
	for _, tag := range []uint64{0, 1, 2, 3, 254, 255} {
		if _, code := c.Leave(tag); (code == api.OK) != p.has(tag) {
			t.Fatalf("%s: Leave of %d is %d", what, tag, code)
		}
	}
}

// all: Settles of all that is unsettled.
func (p plain) all() []deed.Deed {
	var l []deed.Deed
	for _, x := range p.lent {
		l = append(l, settle(x.Queue, x.ID, 0))
	}
	return l
}

// twin is a channel, and what it should be.
type twin struct {
	c Chan
	p plain
}

// fresh: a new one.
func fresh() twin { return twin{New(), plain{credit: 16}} }

// check: both are alike behind a call, and so is what they were ahead of it; beside an error they are as they were.
func (w twin) check(t *testing.T, what string, c Chan, code api.Errno, p plain, wanted api.Errno) (twin, api.Errno) {
	t.Helper()
	if code != wanted {
		t.Fatalf("%s: %d, wanted %d", what, code, wanted)
	}
	if code != api.OK {
		tells(t, what+", refused", c, w.p)
	}
	tells(t, what, c, p)
	tells(t, what+", as it was", w.c, w.p)
	return twin{c, p}, code
}

// credit: the credit is n.
func (w twin) credit(t *testing.T, n uint64) (twin, api.Errno) {
	t.Helper()
	p, wanted := w.p, api.ErrRange
	if n >= 1 && n <= 16 {
		p.credit, wanted = n, api.OK
	}
	c, code := w.c.Credit(n)
	return w.check(t, "Credit", c, code, p, wanted)
}

// take: a taker more.
func (w twin) take(t *testing.T, tag uint64, queue string) (twin, api.Errno) {
	t.Helper()
	p, wanted := w.p, api.OK
	switch {
	case tag > 255:
		wanted = api.ErrRange
	case p.has(tag):
		wanted = api.ErrThere
	case len(p.takers) == 4:
		wanted = api.ErrFull
	default:
		p.takers = append(slices.Clone(p.takers), Taker{tag, queue})
	}
	c, code := w.c.Take(tag, queue)
	return w.check(t, "Take", c, code, p, wanted)
}

// leave: a taker less.
func (w twin) leave(t *testing.T, tag uint64) (twin, api.Errno) {
	t.Helper()
	p, wanted := w.p, api.ErrNone
	var left []Taker
	for _, x := range p.takers {
		if x.Tag == tag {
			wanted = api.OK
		} else {
			left = append(left, x)
		}
	}
	p.takers = left
	c, code := w.c.Leave(tag)
	return w.check(t, "Leave", c, code, p, wanted)
}

// lend: some more are unsettled, one by one.
func (w twin) lend(t *testing.T, l ...Lent) twin {
	t.Helper()
	for _, x := range l {
		p := w.p
		p.lent = append(slices.Clone(p.lent), x)
		w, _ = w.check(t, "Lend", w.c.Lend(x), api.OK, p, api.OK)
	}
	return w
}

// gone: these are settled.
func (w twin) gone(t *testing.T, l ...deed.Deed) twin {
	t.Helper()
	more, _ := w.check(t, "Gone", w.c.Gone(l...), api.OK, w.p.gone(l), api.OK)
	return more
}

// surely: its Puts are numbered.
func (w twin) surely(t *testing.T) (twin, api.Errno) {
	t.Helper()
	p, wanted := w.p, api.ErrOrder
	if !p.drafts {
		p.sure, wanted = true, api.OK
	}
	c, code := w.c.Sure()
	return w.check(t, "Sure", c, code, p, wanted)
}

// put: a Put more, with its number.
func (w twin) put(t *testing.T) (twin, uint64) {
	t.Helper()
	p, wanted := w.p, uint64(0)
	if p.sure {
		p.number++
		wanted = p.number
	}
	c, number := w.c.Put()
	if number != wanted {
		t.Fatalf("Put: %d, wanted %d", number, wanted)
	}
	more, _ := w.check(t, "Put", c, api.OK, p, api.OK)
	return more, number
}

// drafts: it drafts.
func (w twin) drafts(t *testing.T) (twin, api.Errno) {
	t.Helper()
	p, wanted := w.p, api.ErrOrder
	if !p.drafts && !p.sure {
		p.drafts, p.held, wanted = true, nil, api.OK
	}
	c, code := w.c.Draft()
	return w.check(t, "Draft", c, code, p, wanted)
}

// hold: some more deeds wait.
func (w twin) hold(t *testing.T, l ...deed.Deed) (twin, api.Errno) {
	t.Helper()
	p, wanted := w.p.hold(l)
	c, code := w.c.Hold(l...)
	return w.check(t, "Hold", c, code, p, wanted)
}

// undo: none waits.
func (w twin) undo(t *testing.T) (twin, api.Errno) {
	t.Helper()
	p, wanted := w.p, api.ErrOrder
	if p.drafts {
		p.held, wanted = nil, api.OK
	}
	c, code := w.c.Undo()
	return w.check(t, "Undo", c, code, p, wanted)
}

// fine: what is behind a call that has no error.
func fine(t *testing.T) func(twin, api.Errno) twin {
	return func(w twin, code api.Errno) twin {
		t.Helper()
		if code != api.OK {
			t.Fatalf("an error: %d", code)
		}
		return w
	}
}

// refused: a call has that error.
func refused(t *testing.T, what string, want api.Errno) func(twin, api.Errno) {
	return func(_ twin, code api.Errno) {
		t.Helper()
		if code != want {
			t.Errorf("%s: %d, wanted %d", what, code, want)
		}
	}
}

// over: deeds that were handed in or out are written over, spare room included.
func over(l []deed.Deed) {
	l = l[:cap(l)]
	for at := range l {
		h := l[at].Mail.Head[:cap(l[at].Mail.Head)]
		for n := range h {
			h[n] = api.Pair{Key: "over", Kind: 1, Text: strings.Repeat("over", 9)}
		}
		l[at] = deed.Deed{Kind: 77, Name: "over"}
	}
}
