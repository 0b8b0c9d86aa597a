package store

import (
	"math"
	"slices"
	"strconv"
	"strings"
	"testing"

	"stairwell/api"
	"stairwell/deed"
	"stairwell/mail"
	"stairwell/match"
	"stairwell/policy"
	"stairwell/route"
	"stairwell/stock"
)

// P23.2: a message goes to all queues, and to all places, to which its exchange leads, to each once, by rising IDs.
func TestPut(t *testing.T) {
	w := at(t, low).all(t, newShop("a", match.Fanout), newShop("b", match.Fanout),
		newQueue("q", 5, 0, ""), newQueue("r", 5, 0, ""), newQueue("s", 5, 0, ""),
		up("a", "high"), bound("a", "r"), up("a", "left"), bound("a", "q"), bound("b", "s"), up("b", "right"))
	twice := bound("a", "q")
	twice.Bind.Key = "k"
	w = w.all(t, twice)
	m := api.Mail{ID: 99, Shop: "a", Key: "k.l", Head: []api.Pair{{Key: "h", Kind: 1, Text: "\x00"}}, Body: "body", Due: 500, Hops: 4}
	w = w.counts(t, deed.Deed{Kind: deed.Put, Tick: 3, Mail: m}, 4, 0)
	for name, id := range map[string]uint64{"r": 1, "q": 2} { // in the order of the bindings
		m.ID = id
		if l := w.s.Parts().Stock.Line(name).All(); len(l) != 1 || !mail.Same(l[0].Mail, m) || l[0].Lent || l[0].Again {
			t.Errorf("%s: %+v", name, l)
		}
	}
	m.ID = 0
	for _, place := range []int{left, high} {
		if l := w.s.Parts().Stock.Rise(place).All(); len(l) != 1 || !mail.Same(l[0], m) {
			t.Errorf("%d: %+v", place, l)
		}
	}
	is(t, w.queue("s")+w.rise(right)+w.rise(low)+w.noted(), "")
	if w.s.Parts().Stock.Next() != 3 || w.s.Parts().Spent != [8]Spent{} || w.s.Parts().Seen != [16]uint64{} {
		t.Errorf("%+v", w.s.Parts())
	}
}

// P23.2: an exchange that isn't there, that leads to nothing, that leads up alone, or to queues alone.
func TestPutNothing(t *testing.T) {
	w := at(t, low).all(t, newShop("a", match.Direct), newQueue("q", 5, 0, ""))
	w.refuses(t, put(0, "b", "x"), api.ErrNone)
	w.refuses(t, put(0, "q", "x"), api.ErrNone)
	w = w.counts(t, put(0, "a", "x"), 0, 0)
	d := bound("a", "q")
	d.Bind.Key = "k"
	w = w.all(t, d, up("a", "left"))
	w = w.counts(t, put(0, "a", "up"), 1, 0)
	m := put(0, "a", "down")
	m.Mail.Key = "k"
	w = w.counts(t, m, 1, 0)
	m.Mail.Key = "k.k"
	w = w.counts(t, m, 0, 0)
	is(t, w.queue("q")+"; "+w.rise(left), "a down 0 0; a up 0 0")
	w = w.all(t, dropShop("a"))
	w.refuses(t, put(0, "a", "x"), api.ErrNone)
}

// P23.2: by which messages go hangs on the exchange's sort.
func TestPutSorts(t *testing.T) {
	for sort, want := range []string{"1 1 0 0", "1 1 1 1", "1 1 1 0", "0 0 1 1"} {
		w := at(t, low).all(t, newShop("a", uint8(sort)), newQueue("q", 5, 0, ""))
		d := bound("a", "q")
		d.Bind.Key, d.Bind.Want, d.Bind.All = "k", []api.Pair{{Key: "h", Num: 1}, {Key: "i", Num: 1}}, true
		w = w.all(t, d)
		if sort == match.Topic {
			d.Bind.Key = "*.m"
			w = w.all(t, d)
		}
		var got []string
		for _, m := range []api.Mail{{Key: "k"}, {Key: "k", Head: []api.Pair{{Key: "h", Num: 1}}}, {Key: "l.m", Head: d.Bind.Want}, {Head: d.Bind.Want}} {
			m.Shop = "a"
			_, r := w.does(t, deed.Deed{Kind: deed.Put, Mail: m})
			got = append(got, strconv.Itoa(r.Count))
		}
		is(t, strings.Join(got, " "), want)
	}
}

// P23.2: a queue that isn't there is left out, and doesn't count.
func TestQueueLeftOut(t *testing.T) {
	w := at(t, low).all(t, newShop("a", match.Fanout), newQueue("q", 5, 0, ""), newQueue("r", 5, 0, ""), newQueue("s", 5, 0, ""),
		bound("a", "q"), bound("a", "r"), bound("a", "s"), up("a", "high"))
	x := w.s.Parts()
	x.Stock, _ = x.Stock.Drop("r")
	p := w.p.clone()
	p.piles = slices.Delete(p.piles, 1, 2)
	w = twin{s: With(p.p, low, x), p: p}
	w = w.counts(t, put(1, "a", "x"), 3, 0)
	is(t, w.queue("q")+", "+w.queue("s")+", "+w.rise(high), "a x 0 0, a x 0 0, a x 0 0")
	if w.s.Parts().Stock.Next() != 3 {
		t.Errorf("next %d", w.s.Parts().Stock.Next())
	}
	x.Stock = stock.New(1, 8000)
	none := twin{s: With(p.p, low, x), p: p.clone()}
	none.p.piles = nil
	none.counts(t, put(1, "a", "x"), 1, 0)
}

// P23.2: in a queue a message is gone at the sooner one of its own Due, and the tick and the queue's Life together.
func TestDue(t *testing.T) {
	const end = math.MaxUint64
	for _, c := range []struct{ tick, due, life, want uint64 }{
		{0, 0, 0, 0},
		{7, 0, 0, 0},
		{7, 9, 0, 9},
		{7, 3, 0, 3},
		{7, end, 0, end},
		{end, 5, 0, 5},
		{0, 0, 1, 1},
		{7, 0, 3, 10},
		{7, 9, 3, 9},
		{7, 10, 3, 10},
		{7, 11, 3, 10},
		{7, 1, 3, 1},
		{7, end, 3, 10},
		{0, 0, end, end},
		{0, end, end, end},
		{0, end - 1, end, end - 1},
		{1, 0, end - 1, end},
		{1, 0, end, 0},
		{1, 5, end, 5},
		{1, end, end, end},
		{end, 0, 1, 0},
		{end, 1, 1, 1},
		{end, end, 1, end},
		{end, 0, end, 0},
		{end - 1, 0, 1, end},
		{end - 1, end, 1, end},
		{end - 1, 0, 2, 0},
		{end - 1, 9, 2, 9},
		{1 << 63, 0, 1 << 63, 0},
		{1 << 63, 0, 1<<63 - 1, end},
	} {
		w := at(t, low).all(t, newShop("a", match.Fanout), newQueue("q", 5, c.life, ""), newQueue("r", 5, 0, ""), bound("a", "q"), bound("a", "r"), up("a", "left"))
		d := put(c.tick, "a", "x")
		d.Mail.Due = c.due
		w = w.counts(t, d, 3, 0)
		if got := w.s.Parts().Stock.Line("q").All()[0].Mail.Due; got != c.want {
			t.Errorf("at %d of Due %d and Life %d: %d, wanted %d", c.tick, c.due, c.life, got, c.want)
		}
		is(t, w.queue("r")+", "+w.rise(left), "a x 0 "+number(c.due)+", a x 0 "+number(c.due))
	}
}

// P23.2, P23.3: a Release releases as many as its Budget in a round, and as many in the next one; each is noted.
func TestRelease(t *testing.T) {
	for _, c := range []struct {
		place    int
		to       string
		number   int
		budget   int
		followed int
	}{{high, "low", 0, 2, low}, {left, "right", 1, 1, right}, {right, "left", 2, 0, left}, {high, "left", 3, 16, left}} {
		w := at(t, c.place).all(t, newRelease("r", c.to), newShop("up", match.Fanout))
		total := uint64(0)
		for _, round := range []uint64{0, 1, 2, 5, 1 << 40, math.MaxUint64 / 5} {
			for n := range c.budget {
				tick := round*5 + uint64(n)%5
				if tick < round*5 {
					tick = math.MaxUint64
				}
				w = w.counts(t, put(tick, "r", "x"+strconv.Itoa(n)), 1, 0)
				total++
				if got := w.s.Parts().Spent[c.number]; got != (Spent{round, n + 1}) {
					t.Errorf("%+v", got)
				}
			}
			for n := range uint64(5) {
				if tick := round*5 + n; tick >= n {
					w.refuses(t, put(tick, "r", "x"), api.ErrGrant)
				}
			}
			if got := w.s.Parts().Stock.Rise(c.followed).Total(); got != total {
				t.Errorf("%d released, wanted %d", got, total)
			}
		}
		for _, one := range w.s.Parts().Notes.All() {
			if one.Kind != Released || one.Text != c.to {
				t.Errorf("%+v", one)
			}
		}
		if w.s.Parts().Notes.Total() != total {
			t.Errorf("%d notes of %d", w.s.Parts().Notes.Total(), total)
		}
	}
}

// P23.2: what is released has the ID 0, and its own Due; which grant it is, and where in the round, is told by the note, and Spent.
func TestReleased(t *testing.T) {
	w := at(t, high).all(t, newRelease("r", "left"), newRelease("s", "low"), newQueue("q", 5, 1, ""))
	m := api.Mail{ID: 9, Shop: "r", Key: "k", Head: []api.Pair{{Key: "h"}}, Body: "b", Due: 70, Hops: 2}
	w = w.counts(t, deed.Deed{Kind: deed.Put, Tick: 14, Mail: m}, 1, 0)
	m.ID = 0
	if l := w.s.Parts().Stock.Rise(left).All(); len(l) != 1 || !mail.Same(l[0], m) {
		t.Errorf("%+v", l)
	}
	w = w.all(t, put(14, "s", "x"), put(15, "s", "y"), put(15, "r", "z"), put(15, "s", "v"))
	w.refuses(t, put(19, "s", "w"), api.ErrGrant)
	is(t, w.noted(), "14 2 left, 14 2 low, 15 2 low, 15 2 left, 15 2 low")
	if got := w.s.Parts().Spent; got != [8]Spent{{3, 2}, {}, {}, {3, 1}} {
		t.Errorf("%+v", got)
	}
	if w.s.Parts().Stock.Next() != 9 {
		t.Error("an ID was told")
	}
}

// P23.2: two Releases to one place have one Budget; what goes up by a binding has none.
func TestReleaseShared(t *testing.T) {
	w := at(t, left).all(t, newRelease("r", "right"), newRelease("s", "right"), newShop("a", match.Fanout), up("a", "high"))
	w = w.counts(t, put(5, "r", "x"), 1, 0)
	w.refuses(t, put(9, "s", "y"), api.ErrGrant)
	for n := range 40 {
		w = w.counts(t, put(9, "a", strconv.Itoa(n)), 1, 0)
	}
	w = w.counts(t, put(10, "s", "y"), 1, 0)
	w = w.all(t, dropShop("r"), dropShop("s"), newRelease("r", "right"))
	w.refuses(t, put(14, "r", "z"), api.ErrGrant)
	is(t, w.noted(), "5 2 right, 10 2 right")
}

// P23.2: ErrGrant is told ahead of layer 21's; what can't be raised spends nothing, and isn't noted.
func TestReleaseFull(t *testing.T) {
	p := ladder(t)
	p.Places[left].Bytes = 60
	w := begun(p, left).all(t, newRelease("r", "right"), newShop("a", match.Fanout), up("a", "high"))
	w.refuses(t, put(0, "r", strings.Repeat("x", 36)), api.ErrFull)
	if got := w.s.Parts(); got.Spent[1] != (Spent{}) || got.Notes.Total() != 0 {
		t.Errorf("%+v", got)
	}
	w = w.counts(t, put(0, "r", strings.Repeat("x", 35)), 1, 0)
	w.refuses(t, put(0, "r", "y"), api.ErrGrant)
	w.refuses(t, put(0, "r", strings.Repeat("x", 36)), api.ErrGrant)
	w.refuses(t, put(5, "r", "y"), api.ErrFull)
	w.refuses(t, put(5, "a", "y"), api.ErrFull)
}

// P23.2: with parts that tell of a place, or a grant, that the policy doesn't have nothing is released, or raised there.
func TestReleaseNowhere(t *testing.T) {
	w := at(t, high).all(t, newRelease("r", "low"), newRelease("s", "left"), newShop("a", match.Fanout))
	other := policy.Policy{Work: 1, Give: 1, Places: []policy.Place{{Name: "low", Bytes: 500, Base: 3}}, Slots: []int{0}}
	x := w.s.Parts()
	x.Book, _ = x.Book.Bind(route.Bind{Shop: "a", To: "high", Up: true})
	p := w.p.clone()
	p.p, p.place, p.binds = other, 0, []route.Bind{{Shop: "a", To: "high", Up: true}}
	o := twin{s: With(other, 0, x), p: p}
	o.refuses(t, put(0, "r", "x"), api.ErrGrant)
	o.refuses(t, put(0, "s", "x"), api.ErrGrant)
	o.refuses(t, put(0, "a", "x"), api.ErrRange)
}

// P23.2: of several queues and places one has an error behind others that had none: nothing is done, no ID is told.
func TestPutAtOnce(t *testing.T) {
	begin := func(bytes int) twin {
		p := ladder(t)
		p.Places[low].Bytes = bytes
		return begun(p, low).all(t, newShop("a", match.Fanout), newShop("b", match.Fanout), newQueue("q", 1, 0, "b"), newQueue("r", 1, 0, "none"), newQueue("s", 9, 0, ""),
			bound("a", "q"), bound("a", "r"), up("a", "high"), up("a", "left"), bound("b", "s"))
	}
	w := begin(8000).all(t, put(0, "a", "one"), lent("r")) // r is full then, and can push out nothing
	w.refuses(t, put(1, "a", "two"), api.ErrFull)
	is(t, w.queue("q")+", "+w.queue("s"), "a one 0 0, ")
	w = w.all(t, unbound(bound("a", "r")))
	w = w.counts(t, put(1, "a", "two"), 3, 0)
	is(t, w.queue("q")+", "+w.queue("s"), "a two 0 0, b one 1 0")

	one := mail.Size(api.Mail{Shop: "a", Body: "one"})
	for room, want := range map[int]api.Errno{4*one - 1: api.ErrFull, 4 * one: api.OK, 3 * one: api.ErrFull, 2 * one: api.ErrFull, one: api.ErrFull, 1: api.ErrFull} {
		w := begin(room)
		if want != api.OK {
			w.refuses(t, put(0, "a", "one"), want)
			continue
		}
		w.counts(t, put(0, "a", "one"), 4, 0)
	}
	for _, next := range []uint64{0, math.MaxUint64, math.MaxUint64 - 1} {
		w := begin(8000).with(t, func(p *plain) { p.next = next })
		if next == 0 || next == math.MaxUint64 { // the last ID goes to q, r has none
			w.refuses(t, put(0, "a", "one"), api.ErrEnd)
			continue
		}
		w = w.counts(t, put(0, "a", "one"), 4, 0)
		w.refuses(t, put(0, "a", "one"), api.ErrEnd)
	}
}

// P23.2: what is pushed out of a queue without Dead is gone; of one whose Dead isn't there it is lost; else it is buried.
func TestPushedOut(t *testing.T) {
	for _, c := range []struct {
		dead  string
		lost  int
		notes string
		d     string
		q     string
	}{
		{"", 0, "", "", "a two 0 9"},
		{"none", 1, "4 1 q", "", "a two 0 9"},
		{"q", 1, "4 1 q", "", "a two 0 9"}, // a queue is no exchange
		{"d", 0, "", "d one 1 14", "a two 0 9"},
		{"nothing", 0, "", "", "a two 0 9"},
	} {
		w := at(t, low).all(t, newShop("a", match.Fanout), newShop("d", match.Fanout), newShop("nothing", match.Fanout),
			newQueue("q", 1, 5, c.dead), newQueue("e", 5, 10, ""), bound("a", "q"), bound("d", "e"))
		d := put(3, "a", "one")
		d.Mail.Due = 7
		w = w.counts(t, d, 1, 0)
		w = w.counts(t, put(4, "a", "two"), 1, c.lost)
		is(t, w.noted(), c.notes)
		is(t, w.queue("e"), c.d)
		is(t, w.queue("q"), c.q)
	}
}

// P23.2: what is buried keeps its Key and its Head, and is sent to the exchange Dead: that is its Shop; it has a new ID.
func TestBuried(t *testing.T) {
	w := at(t, low).all(t, newShop("a", match.Fanout), newShop("d", match.Topic), newQueue("q", 1, 0, "d"), newQueue("e", 5, 0, ""), newQueue("f", 5, 0, ""), bound("a", "q"))
	d := bound("d", "e")
	d.Bind.Key = "x.*"
	w = w.all(t, d)
	d = up("d", "right")
	d.Bind.Key = "x.#"
	w = w.all(t, d)
	m := api.Mail{Shop: "a", Key: "x.y", Head: []api.Pair{{Key: "h", Kind: 2, Num: 1}}, Body: "b", Due: 50, Hops: 2}
	w = w.counts(t, deed.Deed{Kind: deed.Put, Mail: m}, 1, 0)
	w = w.counts(t, put(9, "a", "next"), 1, 0)
	m.Shop, m.Due, m.Hops = "d", 0, 3
	if l := w.s.Parts().Stock.Rise(right).All(); len(l) != 1 || !mail.Same(l[0], m) {
		t.Errorf("%+v", l)
	}
	m.ID = 3 // behind that of what pushed it out
	if l := w.s.Parts().Stock.Line("e").All(); len(l) != 1 || !mail.Same(l[0].Mail, m) {
		t.Errorf("%+v", l)
	}
	is(t, w.queue("f")+w.noted(), "")
}

// P23.4: what has 3 Hops is buried, what has 4 is lost; of a queue without Dead it is just gone.
func TestBuriedHops(t *testing.T) {
	for hops := range uint8(5) {
		for _, dead := range []string{"", "d", "nothing"} {
			w := at(t, low).all(t, newShop("a", match.Fanout), newShop("d", match.Fanout), newShop("nothing", match.Fanout),
				newQueue("q", 1, 0, dead), newQueue("e", 5, 0, ""), bound("a", "q"), bound("d", "e"))
			d := put(0, "a", "x")
			d.Mail.Hops = hops
			w = w.counts(t, d, 1, 0)
			lost, notes, e := 0, "", ""
			switch {
			case dead != "" && hops == 4:
				lost, notes = 1, "6 1 q"
			case dead == "d":
				e = "d x " + strconv.Itoa(int(hops)+1) + " 0"
			}
			w = w.counts(t, put(6, "a", "y"), 1, lost)
			is(t, w.noted(), notes)
			is(t, w.queue("e"), e)
		}
	}
}

// P23.2: a Dead that leads back to the same queue: what is pushed out pushes out what came last, till one has no Hops left.
func TestDeadBack(t *testing.T) {
	w := at(t, low).all(t, newShop("a", match.Fanout), newQueue("q", 1, 3, "a"), bound("a", "q"), put(1, "a", "one"))
	// two pushes one out, which comes back and pushes two out, and so on: at last one of them has 4 Hops
	w = w.counts(t, put(2, "a", "two"), 1, 1)
	is(t, w.queue("q"), "a two 4 5")
	is(t, w.noted(), "2 1 q")
	w = w.counts(t, put(3, "a", "three"), 1, 1)
	is(t, w.queue("q"), "a three 0 6")
	if next := w.s.Parts().Stock.Next(); next != 12 {
		t.Errorf("next %d", next)
	}
	wide := at(t, low).all(t, newShop("a", match.Fanout), newQueue("q", 3, 0, "a"), bound("a", "q"), put(1, "a", "one"), put(1, "a", "two"), put(1, "a", "three"))
	wide = wide.counts(t, put(2, "a", "four"), 1, 1)
	is(t, wide.queue("q"), "a two 4 0, a three 4 0, a four 4 0")
}

// P23.2: a Dead that leads to a full queue pushes out more, which is buried behind all that waits.
func TestDeadFull(t *testing.T) {
	w := at(t, low).all(t, newShop("a", match.Fanout), newShop("b", match.Fanout), newShop("c", match.Fanout), newShop("d", match.Fanout),
		newQueue("q", 1, 0, "c"), newQueue("r", 1, 0, "c"), newQueue("s", 1, 0, "d"), newQueue("t", 9, 0, ""),
		bound("a", "q"), bound("a", "r"), bound("c", "s"), bound("d", "t"), bound("b", "s"),
		put(0, "a", "one"), put(0, "b", "two"))
	w = w.counts(t, put(1, "a", "three"), 2, 0)
	// of q and of r one is pushed out: of these the first pushes two out of s, the second the first, and both go to t then
	is(t, w.queue("q")+"; "+w.queue("r"), "a three 0 0; a three 0 0")
	is(t, w.queue("s"), "c one 1 0")
	is(t, w.queue("t"), "d two 1 0, d one 2 0")
	is(t, w.noted(), "")
	ids := w.s.Parts().Stock.Line("t").All()
	if ids[0].Mail.ID != 8 || ids[1].Mail.ID != 9 || w.s.Parts().Stock.Line("s").All()[0].Mail.ID != 7 {
		t.Errorf("%+v", ids)
	}
}

// P23.2: a queue of those to which a message goes is full: what it pushes out is buried behind all that was sent.
func TestDeadBehind(t *testing.T) {
	w := at(t, low).all(t, newShop("a", match.Fanout), newShop("b", match.Fanout), newQueue("q", 1, 0, "b"), newQueue("r", 2, 0, ""),
		bound("a", "q"), bound("a", "r"), bound("b", "r"), up("a", "high"), up("b", "high"), put(0, "a", "one"))
	w = w.counts(t, put(1, "a", "two"), 3, 0)
	is(t, w.queue("q"), "a two 0 0")
	is(t, w.queue("r"), "a two 0 0, b one 1 0")
	is(t, w.rise(high), "a one 0 0, a two 0 0, b one 1 0")
}

// P23.2: what can't be buried for want of room, of IDs, or of a place that is ready, is lost, and no part of it went.
func TestBuryErrors(t *testing.T) {
	begin := func(bytes int) twin {
		p := ladder(t)
		p.Places[low].Bytes = bytes
		return begun(p, low).all(t, newShop("a", match.Fanout), newShop("d", match.Fanout), newQueue("q", 1, 0, "d"), newQueue("e", 1, 0, ""), newQueue("f", 1, 0, ""),
			bound("a", "q"), bound("d", "e"), bound("d", "f"))
	}
	one := mail.Size(api.Mail{Shop: "a", Body: "x"})
	for room, lost := range map[int]int{one: 1, 2 * one: 1, 3*one - 1: 1, 3 * one: 0} {
		w := begin(room).all(t, put(0, "a", "x"))
		w = w.counts(t, put(8, "a", "y"), 1, lost)
		is(t, w.queue("q"), "a y 0 0")
		if want := strings.Repeat("d x 1 0", 1-lost); w.queue("e") != want || w.queue("f") != want {
			t.Errorf("%d: %q, %q", room, w.queue("e"), w.queue("f"))
		}
		is(t, w.noted(), strings.Repeat("8 1 q", lost))
	}
	for behind, lost := range []int{1, 1, 1, 0} { // of IDs one is for the Put, two for what is buried
		w := begin(8000).all(t, put(0, "a", "x")).with(t, func(p *plain) { p.next = -uint64(behind) })
		if behind == 0 {
			w.refuses(t, put(8, "a", "y"), api.ErrEnd)
			continue
		}
		w = w.counts(t, put(8, "a", "y"), 1, lost)
		is(t, w.noted(), strings.Repeat("8 1 q", lost))
		if next := w.s.Parts().Stock.Next(); next != -uint64(behind)+1 && lost == 1 || next != 0 && lost == 0 {
			t.Errorf("%d: next %d", behind, next)
		}
	}
	w := begin(8000).all(t, put(0, "d", "z"), lent("f"), put(0, "a", "x")) // f is full, and can push out nothing
	w = w.counts(t, put(8, "a", "y"), 1, 1)
	is(t, w.queue("e")+"; "+w.queue("f"), "d z 0 0; d z 0 0")
}

// P23.2, P23.3: a Dead that is a Release: what is buried is released, as far as the Budget goes, and lost behind.
func TestDeadRelease(t *testing.T) {
	w := at(t, high).all(t, newShop("a", match.Fanout), newRelease("r", "low"), newQueue("q", 1, 0, "r"), bound("a", "q"), put(0, "a", "0"))
	for n := 1; n < 8; n++ {
		tick := uint64(n + 1) // 5 is the next round's
		lost := 0
		if n == 3 || n > 5 {
			lost = 1
		}
		w = w.counts(t, put(tick, "a", strconv.Itoa(n)), 1, lost)
	}
	is(t, w.noted(), "2 2 low, 3 2 low, 4 1 q, 5 2 low, 6 2 low, 7 1 q, 8 1 q")
	is(t, w.rise(low), "r 0 1 0, r 1 1 0, r 3 1 0, r 4 1 0")
}

// P23.2: all whose time is over are gone, of all queues, in order, and buried behind that; what is lent stays.
func TestLate(t *testing.T) {
	w := at(t, low).all(t, newShop("a", match.Direct), newShop("d", match.Fanout),
		newQueue("q", 9, 0, "d"), newQueue("r", 9, 20, ""), newQueue("s", 9, 0, "none"), newQueue("e", 9, 0, ""), bound("d", "e"))
	for _, name := range []string{"q", "r", "s"} {
		d := bound("a", name)
		d.Bind.Key = name
		w = w.all(t, d)
	}
	w = w.counts(t, lateAt(0), 0, 0)
	for _, c := range []struct {
		name string
		due  uint64
	}{{"s", 9}, {"s", 8}, {"q", 9}, {"q", 0}, {"r", 5}, {"q", 11}, {"q", 10}, {"r", 0}, {"s", 10}, {"q", 1}} {
		d := put(1, "a", c.name+number(c.due))
		d.Mail.Key, d.Mail.Due = c.name, c.due
		w = w.counts(t, d, 1, 0)
	}
	w = w.all(t, lent("q"), lent("s"))
	w = w.counts(t, lateAt(0), 0, 0)
	w = w.counts(t, lateAt(1), 1, 0)
	is(t, w.queue("e"), "d q1 1 0")
	w = w.counts(t, lateAt(10), 4, 2)
	is(t, w.queue("q"), "a q9 0 9, a q0 0 0, a q11 0 11")
	is(t, w.queue("r"), "a r0 0 21")
	is(t, w.queue("s"), "a s9 0 9")
	is(t, w.queue("e"), "d q1 1 0, d q10 1 0")
	is(t, w.noted(), "10 1 s, 10 1 s")
	w = w.counts(t, lateAt(10), 0, 0)
	w = w.counts(t, wokenAt(10), 0, 0)
	w = w.counts(t, lateAt(math.MaxUint64), 4, 1)
	is(t, w.queue("q")+w.queue("r")+w.queue("s"), "a q0 0 0")
	is(t, w.queue("e"), "d q1 1 0, d q10 1 0, d q9 1 0, d q11 1 0")
}

// P23.2: what is late and comes back by its Dead, to a queue with a Life, isn't late again in the same deed.
func TestLateBack(t *testing.T) {
	w := at(t, low).all(t, newShop("a", match.Fanout), newQueue("q", 3, 1, "a"), bound("a", "q"))
	for n := range 3 {
		w = w.all(t, put(0, "a", strconv.Itoa(n)))
	}
	for hop := range 4 {
		w = w.counts(t, lateAt(uint64(hop+1)), 3, 0)
		due := strconv.Itoa(hop+1) + " " + strconv.Itoa(hop+2)
		is(t, w.queue("q"), "a 0 "+due+", a 1 "+due+", a 2 "+due)
	}
	w = w.counts(t, lateAt(5), 3, 3)
	is(t, w.queue("q"), "")
	is(t, w.noted(), "5 1 q, 5 1 q, 5 1 q")
}

// P23.2: all that is late is gone ahead of what is buried: there is room for that.
func TestLateRoom(t *testing.T) {
	p := ladder(t)
	p.Places[low].Bytes = 8 * mail.Size(api.Mail{Shop: "a"})
	w := begun(p, low).all(t, newShop("a", match.Fanout), newShop("d", match.Fanout), newQueue("q", 8, 5, "d"), newQueue("e", 4, 0, ""), newQueue("f", 4, 0, ""),
		bound("a", "q"), bound("d", "e"), bound("d", "f"))
	for range 8 {
		w = w.all(t, put(0, "a", ""))
	}
	w.refuses(t, put(0, "d", ""), api.ErrFull)
	w = w.counts(t, lateAt(5), 8, 0)
	if got := w.s.Parts().Stock; got.Line("e").Len() != 4 || got.Line("f").Len() != 4 || got.Room() != 0 {
		t.Errorf("%d, %d, room for %d", got.Line("e").Len(), got.Line("f").Len(), got.Room())
	}
}

// P23.2: a message comes from another place, by a flow or by a grant; the errors of it, and which of two comes first.
func TestPull(t *testing.T) {
	p := ladder(t)
	for place, from := range []string{"3", "0 2 3", "0 1", "0 1 2"} {
		w := begun(p, place).all(t, newShop("a", match.Fanout), newQueue("q", 9, 0, ""), bound("a", "q"))
		for other := range 256 {
			name := strconv.Itoa(other)
			switch {
			case other > 3:
				w.refuses(t, pulled(1, uint8(other), 0, "a", "x"), api.ErrNone)
			case !slices.Contains(strings.Fields(from), name):
				w.refuses(t, pulled(1, uint8(other), 0, "a", "x"), api.ErrFlow)
				w.refuses(t, pulled(1, uint8(other), 1, "a", "x"), api.ErrFlow)
			default:
				w.refuses(t, pulled(1, uint8(other), 0, "a", "x"), api.ErrOrder)
				came := w.counts(t, pulled(1, uint8(other), 1, "a", "x"), 1, 0)
				is(t, came.queue("q"), "a x 1 0")
				if byGrant := other > place || place == right && other == left; byGrant {
					is(t, came.noted(), "1 2 "+p.Places[other].Name)
				} else {
					is(t, came.noted(), "")
				}
			}
		}
	}
}

// P23.4: Numbers rise: of each place those above what is Seen alone come.
func TestPullSeen(t *testing.T) {
	w := at(t, left).all(t, newShop("a", match.Fanout), newQueue("q", 9, 0, ""), bound("a", "q"))
	for _, number := range []uint64{1, 2, 7, 1 << 32, 1 << 63, math.MaxUint64} {
		w = w.counts(t, pulled(1, low, number, "a", "x"), 1, 0)
		for _, wrong := range []uint64{0, 1, number - 1, number} {
			w.refuses(t, pulled(1, low, wrong, "a", "x"), api.ErrOrder)
			w.refuses(t, pulled(1, low, wrong, "none", "x"), api.ErrOrder)
		}
		if w.s.Parts().Seen != [16]uint64{number} {
			t.Errorf("%v", w.s.Parts().Seen)
		}
	}
	w = w.counts(t, pulled(1, high, 5, "a", "x"), 1, 0)
	w = w.counts(t, pulled(1, right, 1, "a", "x"), 1, 0)
	if w.s.Parts().Seen != [16]uint64{math.MaxUint64, 0, 1, 5} {
		t.Errorf("%v", w.s.Parts().Seen)
	}
	is(t, w.noted(), "1 2 high, 1 2 right")
}

// P23.2: what comes has one Hop more, and its own Due; it is put with a new ID.
func TestPulled(t *testing.T) {
	w := at(t, high).all(t, newShop("a", match.Fanout), newQueue("q", 9, 100, ""), bound("a", "q"), newRelease("r", "low"))
	m := api.Mail{ID: 77, Shop: "a", Key: "k", Head: []api.Pair{{Key: "h"}}, Body: "b", Due: 30, Hops: 3}
	w = w.counts(t, deed.Deed{Kind: deed.Pull, Tick: 5, From: low, Number: 9, Mail: m}, 1, 0)
	m.ID, m.Hops = 9, 4
	if l := w.s.Parts().Stock.Line("q").All(); len(l) != 1 || !mail.Same(l[0].Mail, m) {
		t.Errorf("%+v", l)
	}
	w = w.counts(t, pulled(5, low, 10, "a", "y"), 1, 0)
	is(t, w.queue("q"), "a b 4 30, a y 1 105")
	w = w.counts(t, pulled(5, low, 11, "r", "on"), 1, 0)
	is(t, w.rise(low), "r on 1 0")
	is(t, w.noted(), "5 2 low")
}

// P23.2: what came is lost, and Seen all the same, where it has 4 Hops, or can't be sent.
func TestPullLost(t *testing.T) {
	p := ladder(t)
	p.Places[left].Bytes = 100
	w := begun(p, left).all(t, newShop("a", match.Fanout), newShop("full", match.Fanout), newQueue("q", 1, 0, "a"), newQueue("f", 1, 0, ""),
		bound("a", "q"), bound("full", "f"), bound("full", "q"), newRelease("r", "right"), put(0, "full", ""), lent("f"))
	full := w.queue("q")
	d := pulled(4, low, 1, "a", "x")
	d.Mail.Hops = 4
	lost := w.counts(t, d, 0, 1)
	is(t, lost.noted(), "4 1 a")
	lost = lost.counts(t, pulled(4, low, 2, "none", "x"), 0, 1)
	lost = lost.counts(t, pulled(4, low, 3, "full", "x"), 0, 1)
	lost = lost.counts(t, pulled(4, low, 4, "a", strings.Repeat("x", 100)), 0, 1)
	is(t, lost.queue("q"), full)
	if lost.s.Parts().Seen[low] != 4 {
		t.Errorf("%v", lost.s.Parts().Seen)
	}
	d.From, d.Number = high, 8
	lost = lost.counts(t, d, 0, 1)
	is(t, lost.noted(), "4 1 a, 4 1 none, 4 1 full, 4 1 a, 4 2 high, 4 1 a")
	w = w.all(t, settled("f", 100, 0), dropQueue("q"))
	w = w.counts(t, pulled(4, low, 1, "r", "x"), 1, 0)
	w = w.counts(t, pulled(4, high, 2, "r", "y"), 0, 1)
	is(t, w.noted(), "4 2 right, 4 2 high, 4 1 r")
	is(t, w.rise(right), "r x 1 0")
	w = w.counts(t, pulled(4, high, 3, "a", "z"), 0, 0)
}

// P23.2: what comes may push out others, which are buried, or lost; the notes stand in that order.
func TestPullPushes(t *testing.T) {
	w := at(t, left).all(t, newShop("a", match.Fanout), newShop("d", match.Fanout), newQueue("q", 1, 0, "d"), newQueue("e", 1, 0, "none"), bound("a", "q"), bound("d", "e"),
		put(0, "a", "one"), put(0, "a", "two"))
	is(t, w.queue("q")+", "+w.queue("e"), "a two 0 0, d one 1 0")
	w = w.counts(t, pulled(6, high, 1, "a", "three"), 1, 1)
	is(t, w.queue("q")+", "+w.queue("e"), "a three 1 0, d two 1 0")
	is(t, w.noted(), "6 2 high, 6 1 e")
}

// P23.2: where the policy has more, or fewer, places and grants: numbers stand by these.
func TestManyPlaces(t *testing.T) {
	var p policy.Policy
	p.Work, p.Give = 1, 1
	for n := range 16 {
		p.Places = append(p.Places, policy.Place{Name: "p" + strconv.Itoa(n), Label: api.Label{Level: uint8(15 - n)}, Bytes: 9000, Base: 1})
		p.Slots = append(p.Slots, n)
	}
	for n := range 8 {
		p.Grants = append(p.Grants, policy.Grant{From: 0, To: n + 1, Budget: n % 2})
	}
	if code := p.Check(); code != api.OK {
		t.Fatal(code)
	}
	w := begun(p, 0).all(t, newShop("a", match.Fanout))
	for n := range 8 {
		name := "r" + strconv.Itoa(n)
		if n == 7 { // there may be 8 exchanges
			w = w.all(t, dropShop("r0"))
		}
		w = w.all(t, newRelease(name, "p"+strconv.Itoa(n+1)))
		if n%2 == 0 {
			w.refuses(t, put(31, name, "x"), api.ErrGrant)
			continue
		}
		w = w.counts(t, put(31, name, "x"), 1, 0)
		w.refuses(t, put(16, name, "x"), api.ErrGrant)
		w = w.counts(t, put(32, name, "x"), 1, 0)
	}
	if got := w.s.Parts().Spent; got != [8]Spent{{}, {2, 1}, {}, {2, 1}, {}, {2, 1}, {}, {2, 1}} {
		t.Errorf("%+v", got)
	}
	w.refuses(t, newRelease("r", "p9"), api.ErrFlow)
	for n := 1; n < 16; n++ {
		w = w.counts(t, pulled(0, uint8(n), uint64(n), "a", ""), 0, 0)
	}
	w.refuses(t, pulled(0, 0, 1, "a", ""), api.ErrFlow)
	w.refuses(t, pulled(0, 16, 1, "a", ""), api.ErrNone)
	is(t, strings.Join(strings.Fields(w.noted()), " "), "31 2 p2, 32 2 p2, 31 2 p4, 32 2 p4, 31 2 p6, 32 2 p6, 31 2 p8, 32 2 p8")
	last := begun(p, 15).all(t, newShop("a", match.Fanout))
	for n := range 15 {
		last = last.all(t, up("a", "p"+strconv.Itoa(n)))
	}
	last = last.counts(t, put(0, "a", "x"), 15, 0)
	last.refuses(t, up("a", "p15"), api.ErrFlow)
}
