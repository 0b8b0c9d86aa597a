package draft

import (
	"math"
	"math/big"
	"math/rand"
	"slices"
	"strings"
	"testing"

	"stairwell/api"
	"stairwell/deed"
	"stairwell/route"
	"stairwell/stock"
)

// most is the last tick.
const most = math.MaxUint64

// ticks: at which drafts are asked.
var ticks = []uint64{0, 1, 7, 1 << 63, most - 7, most - 1, most}

// together: both numbers together, or 0, if that is more than a tick may be.
func together(tick, life uint64) uint64 {
	sum := new(big.Int).Add(new(big.Int).SetUint64(tick), new(big.Int).SetUint64(life))
	if !sum.IsUint64() {
		return 0
	}
	return sum.Uint64()
}

// put: a deed that sends a message that lives so long.
func put(body string, life uint64) deed.Deed {
	return deed.Deed{Kind: deed.Put, Mail: api.Mail{Shop: "a", Body: body, Due: life}}
}

// settle: a deed that settles.
func settle(name string, id uint64, how uint8) deed.Deed {
	return deed.Deed{Kind: deed.Settle, Name: name, ID: id, How: how}
}

// plain is a draft as the document's words have it.
type plain []deed.Deed

// settles: is a Settle of these there?
func (p plain) settles(name string, id uint64) bool {
	for _, d := range p {
		if d.Kind == 8 && d.Name == name && d.ID == id {
			return true
		}
	}
	return false
}

// add: all of these, or none.
func (p plain) add(l ...deed.Deed) (plain, api.Errno) {
	more := slices.Clone(p)
	for _, d := range l {
		if d.Kind != 6 && d.Kind != 8 {
			return p, api.ErrKind
		}
		if code := d.Check(); code != api.OK {
			return p, code
		}
		if d.Kind == 8 && more.settles(d.Name, d.ID) {
			return p, api.ErrThere
		}
		if len(more) == 16 {
			return p, api.ErrFull
		}
		d.Mail.Head = slices.Clone(d.Mail.Head)
		more = append(more, d)
	}
	return more, api.OK
}

// at: all, at a tick.
func (p plain) at(tick uint64) []deed.Deed {
	l := slices.Clone(p)
	for n, d := range l {
		l[n].Tick = tick
		if d.Kind == 6 && d.Mail.Due > 0 {
			l[n].Mail.Due = together(tick, d.Mail.Due)
		}
	}
	return l
}

// tells: a draft tells in all what it should.
func tells(t *testing.T, what string, x Draft, p plain) {
	t.Helper()
	if x.Len() != len(p) {
		t.Fatalf("%s: %d deeds, wanted %d", what, x.Len(), len(p))
	}
	for _, tick := range ticks {
		if got, want := x.At(tick), p.at(tick); !slices.EqualFunc(got, want, deed.Same) {
			t.Fatalf("%s: at %d %+v, wanted %+v", what, tick, got, want)
		}
	}
	for _, name := range []string{"q", "u", "a", "none", ""} {
		for _, id := range []uint64{0, 1, 2, 3, 4, 5, 100, most} {
			if got, want := x.Settles(name, id), p.settles(name, id); got != want {
				t.Fatalf("%s: %s %d: %v, wanted %v", what, name, id, got, want)
			}
		}
	}
}

// twin is a draft, and what it should be.
type twin struct {
	x Draft
	p plain
}

// adds: deeds are added to both, whatever comes of it; what was there stays as it was.
func (w twin) adds(t *testing.T, l ...deed.Deed) (twin, api.Errno) {
	t.Helper()
	x, code := w.x.Add(l...)
	p, want := w.p.add(l...)
	if code != want {
		t.Fatalf("%+v: %d, wanted %d", l, code, want)
	}
	tells(t, "behind", x, p)
	tells(t, "as it was", w.x, w.p)
	return twin{x, p}, code
}

// with: deeds are added that have no error.
func (w twin) with(t *testing.T, l ...deed.Deed) twin {
	t.Helper()
	more, code := w.adds(t, l...)
	if code != api.OK {
		t.Fatalf("%+v: %d", l, code)
	}
	return more
}

// refuses: of these deeds none is added, with that error.
func (w twin) refuses(t *testing.T, what string, want api.Errno, l ...deed.Deed) {
	t.Helper()
	more, code := w.adds(t, l...)
	if code != want {
		t.Errorf("%s: %d, wanted %d", what, code, want)
	}
	tells(t, what, more.x, w.p)
}

// others: deeds that may be, of all kinds but those that a draft may have.
func others() []deed.Deed {
	return []deed.Deed{
		{Kind: deed.MakeShop, Shop: route.Shop{Name: "a"}}, {Kind: deed.DropShop, Name: "a"},
		{Kind: deed.MakeQueue, Queue: stock.Queue{Name: "q", Most: 1}}, {Kind: deed.DropQueue, Name: "q"},
		{Kind: deed.Bind, Bind: route.Bind{Shop: "a", To: "q"}}, {Kind: deed.Unbind, Bind: route.Bind{Shop: "a", To: "q"}},
		{Kind: deed.Lend, Name: "q"}, {Kind: deed.Late}, {Kind: deed.Pull, Mail: api.Mail{Shop: "a"}}, {Kind: deed.Wake}, {Kind: deed.Note},
	}
}

// one: one of some, by chance.
func one[T any](r *rand.Rand, l ...T) T { return l[r.Intn(len(l))] }

// thrown: a deed by chance; now and then one that can't be added.
func thrown(r *rand.Rand) deed.Deed {
	tick := one(r, 0, 1, r.Uint64(), most)
	switch r.Intn(24) {
	case 0:
		return one(r, others()...)
	case 1:
		return one(r, settle("", 1, 0), settle("q", 1, 3), put(strings.Repeat("b", 257), 0), deed.Deed{Kind: deed.Put})
	case 2, 3, 4, 5, 6, 7, 8, 9:
		d := settle(one(r, "q", "u"), one[uint64](r, 0, 1, 2, 3, 4, 5, 100, most, r.Uint64()), uint8(r.Intn(3)))
		d.Tick = tick
		return d
	}
	d := put(strings.Repeat("b", r.Intn(9)), one(r, 0, 1, 8, r.Uint64(), most-7, most))
	d.Tick, d.Mail.ID, d.Mail.Hops, d.Mail.Key = tick, r.Uint64(), uint8(r.Intn(5)), one(r, "", "k", "k.l")
	if r.Intn(2) == 0 {
		d.Mail.Head = []api.Pair{{Key: "x", Num: r.Int63()}, {Key: "y", Kind: 1, Text: "text"}}
	}
	return d
}
