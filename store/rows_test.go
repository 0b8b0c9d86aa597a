package store

import (
	"math"
	"math/rand"
	"strconv"
	"strings"
	"testing"

	"stairwell/api"
	"stairwell/deed"
	"stairwell/policy"
	"stairwell/route"
)

// one: one of some, by chance.
func one[T any](r *rand.Rand, l ...T) T { return l[r.Intn(len(l))] }

func thrownShop(r *rand.Rand) string { return one(r, "a", "b", "c", "d", "r", "s", "a", "b") }

func thrownQueue(r *rand.Rand) string { return one(r, "q", "high", "u", "v", "q", "u") }

func thrownPlace(r *rand.Rand) string { return one(r, "low", "left", "right", "high") }

// thrownHead: a head by chance.
func thrownHead(r *rand.Rand) []api.Pair {
	var h []api.Pair
	for _, key := range []string{"x", "y", "z"} {
		if r.Intn(3) == 0 {
			h = append(h, api.Pair{Key: key, Num: int64(r.Intn(2))})
		}
	}
	return h
}

// thrownMail: a message by chance; now and then it may not be.
func thrownMail(r *rand.Rand, tick uint64) api.Mail {
	m := api.Mail{ID: r.Uint64(), Shop: thrownShop(r), Key: one(r, "", "k", "k.l", "l.l"), Head: thrownHead(r), Body: strings.Repeat("b", r.Intn(30))}
	m.Hops = one[uint8](r, 0, 0, 1, 2, 3, 4)
	if r.Intn(3) == 0 {
		m.Due = tick + uint64(r.Intn(9))
	}
	if r.Intn(40) == 0 {
		m.Hops = 5
	}
	return m
}

func thrownBind(r *rand.Rand) route.Bind {
	x := route.Bind{Shop: thrownShop(r), To: thrownQueue(r), Key: one(r, "", "k", "*", "#", "k.#", "*.l", "k..l"), Want: thrownHead(r), All: r.Intn(2) == 0}
	if r.Intn(3) == 0 {
		x.To, x.Up = thrownPlace(r), true
	}
	return x
}

// thrownID: that of a message that is there, mostly one that is lent.
func (w twin) thrownID(r *rand.Rand, name string) uint64 {
	items := w.s.Parts().Stock.Line(name).All()
	for range 3 {
		if len(items) > 0 {
			if x := items[r.Intn(len(items))]; x.Lent || r.Intn(4) == 0 {
				return x.Mail.ID
			}
		}
	}
	return uint64(r.Intn(30))
}

// thrown: a deed by chance, of any kind, at that tick.
func (w twin) thrown(r *rand.Rand, tick uint64) deed.Deed {
	d := deed.Deed{Kind: one[uint8](r, 0, 0, 0, 1, 2, 2, 2, 3, 4, 4, 4, 4, 5, 7, 7, 7, 7, 8, 8, 8, 8, 9, 10, 10, 10, 10, 11, 12, 6, 6, 6, 6, 6, 6, 6, 6, 6, 13), Tick: tick}
	switch d.Kind {
	case deed.MakeShop:
		d.Shop = route.Shop{Name: thrownShop(r), Sort: one[uint8](r, 0, 1, 2, 3, 4, 1, 2, 4, 1, 5)}
		if d.Shop.Sort == route.Release || r.Intn(20) == 0 {
			d.Shop.To = thrownPlace(r)
		}
	case deed.DropShop:
		d.Name = one(r, "none", "none", thrownShop(r))
	case deed.MakeQueue:
		d.Queue = newQueue(thrownQueue(r), one[uint64](r, 1, 1, 2, 3, 64, 65), one[uint64](r, 0, 2, 5), one(r, "", "a", "b", "r", "none")).Queue
	case deed.DropQueue:
		d.Name = one(r, "none", "none", thrownQueue(r))
	case deed.Bind, deed.Unbind:
		d.Bind = thrownBind(r)
		if binds := w.s.Parts().Book.Binds(); len(binds) > 0 && r.Intn(3) == 0 {
			d.Bind = one(r, binds...)
		}
	case deed.Put:
		d.Mail = thrownMail(r, tick)
	case deed.Lend:
		d.Name = thrownQueue(r)
	case deed.Settle:
		d.Name, d.How = thrownQueue(r), uint8(r.Intn(3))
		d.ID = w.thrownID(r, d.Name)
	case deed.Pull:
		d.From, d.Number, d.Mail = uint8(r.Intn(5)), uint64(r.Intn(4)), thrownMail(r, tick)
		if d.From < 4 {
			d.Number += w.s.Parts().Seen[d.From]
		}
	case deed.Note:
		d.Code, d.Text = uint8(r.Intn(256)), one(r, "", "text", strings.Repeat("t", 64), strings.Repeat("t", 65))
	}
	return d
}

// watch is what may be raised: how many were, by a grant, in a round.
type watch struct {
	p     policy.Policy
	place int
	round uint64
	count [16]uint64
}

// look: between the one store and the other one nothing is raised that may not be, at that tick.
func (w *watch) look(t *testing.T, was, is Parts, tick uint64) {
	t.Helper()
	if round := tick / uint64(len(w.p.Slots)); round != w.round {
		w.round, w.count = round, [16]uint64{}
	}
	for to := range 16 {
		more := is.Stock.Rise(to).Total() - was.Stock.Rise(to).Total()
		if more == 0 || w.p.Flows(w.place, to) {
			continue
		}
		number := w.p.Grant(w.place, to)
		if number < 0 {
			t.Fatalf("raised to %d", to)
		}
		if w.count[to] += more; w.count[to] > uint64(w.p.Grants[number].Budget) {
			t.Fatalf("%d raised to %d in the round %d", w.count[to], to, w.round)
		}
	}
}

// hops: the greatest Hops that a message has.
func (p *plain) hops() uint8 {
	most := uint8(0)
	for _, x := range p.piles {
		for _, one := range x.items {
			most = max(most, one.Mail.Hops)
		}
	}
	for _, x := range p.climbs {
		for _, m := range x.kept {
			most = max(most, m.Hops)
		}
	}
	return most
}

// P23.2 to P23.4: long rows of deeds of all kinds, at ticks that rise, held against the document's words behind each: nothing is
// raised but what may be, messages have at most 4 Hops, what comes from a place comes by rising numbers; a store that others
// were made of is at the end as it was.
func TestRows(t *testing.T) {
	seen := map[string]int{}
	released, lost, hops := uint64(0), 0, uint8(0)
	for seed := range int64(40) {
		r := rand.New(rand.NewSource(seed))
		p, place := ladder(t), int(seed%4)
		p.Places[place].Bytes = []int{300, 1000, 4000, 65536}[seed/4%4]
		if seed%5 == 0 {
			p.Places[place].Base = math.MaxUint64 - 9
		}
		w := begun(p, place)
		w.seen = seen
		all, look, tick := []twin{w}, watch{p: p, place: place}, uint64(0)
		for range 200 {
			tick += uint64(r.Intn(3)) / 2
			d := w.thrown(r, tick)
			more, result, _ := w.tries(t, d)
			lost += result.Lost
			look.look(t, w.s.Parts(), more.s.Parts(), tick)
			if d.Kind == deed.Pull && int(d.From) < 4 && !Same(w.s.Parts(), more.s.Parts()) {
				if d.Number <= w.s.Parts().Seen[d.From] || more.s.Parts().Seen[d.From] != d.Number {
					t.Fatalf("%d behind %d", d.Number, w.s.Parts().Seen[d.From])
				}
			}
			hops = max(hops, more.p.hops())
			w = more
			all = append(all, w)
		}
		for at, x := range all {
			tells(t, "at the end", x.s, x.p)
			other := one(r, all...)
			if got, want := Same(x.s.Parts(), other.s.Parts()), x.p.written() == other.p.written(); got != want {
				t.Fatalf("row %d, %d: %v, wanted %v", seed, at, got, want)
			}
		}
		for _, x := range w.s.Parts().Spent {
			released += uint64(x.Count)
		}
	}
	if released == 0 || lost == 0 || hops != 4 {
		t.Errorf("%d released, %d lost, up to %d Hops", released, lost, hops)
	}
	for _, told := range []string{
		"0 0", "0 8", "0 9", "0 11", "1 0", "1 10", "2 0", "2 7", "2 9", "3 0", "3 10", "4 0", "4 4", "4 8", "4 10", "4 11", "5 0", "5 10",
		"6 0", "6 7", "6 10", "6 12", "6 18", "6 19", "7 0", "7 10", "7 15", "8 0", "8 10", "8 13", "9 0", "10 0", "10 7", "10 10", "10 11", "10 13", "11 0", "12 0", "12 5", "13 8",
	} {
		if seen[told] == 0 {
			t.Errorf("no row comes to a deed and an error %s", told)
		}
	}
}

// P23.3: whatever is asked for, in each round a grant lets as many go as its Budget, at each place, and never more.
func TestBudgets(t *testing.T) {
	p := ladder(t)
	for place := range 4 {
		r := rand.New(rand.NewSource(int64(place)))
		w, look := begun(p, place), watch{p: p, place: place}
		full := map[int]bool{}
		for at, to := range []string{"low", "left", "right", "high"} {
			if p.Grant(place, at) >= 0 {
				w = w.all(t, newRelease("r"+strconv.Itoa(at), to))
			}
		}
		w = w.all(t, newShop("a", 1), newQueue("q", 1, 1, "r0"), newQueue("u", 2, 0, "r1"), bound("a", "q"), bound("a", "u"))
		for tick := range uint64(60) {
			for range 6 {
				d := put(tick, one(r, "a", "r0", "r1", "r2", "r3"), "x")
				if r.Intn(3) == 0 {
					d = lateAt(tick)
				}
				more, _, _ := w.tries(t, d)
				look.look(t, w.s.Parts(), more.s.Parts(), tick)
				w = more
			}
			for to, n := range look.count {
				if number := p.Grant(place, to); number >= 0 && n == uint64(p.Grants[number].Budget) {
					full[to] = true
				}
			}
		}
		for to := range 4 {
			if number := p.Grant(place, to); number >= 0 && p.Grants[number].Budget < 16 && !full[to] {
				t.Errorf("from %d to %d the Budget is never used up", place, to)
			}
		}
	}
}
