package store

import (
	"math"
	"slices"
	"strconv"
	"strings"
	"testing"

	"stairwell/api"
	"stairwell/deed"
	"stairwell/match"
	"stairwell/notes"
	"stairwell/policy"
	"stairwell/route"
	"stairwell/stock"
)

// The places of the ladder: from low it flows to all others, from left and right to high.
const (
	low = iota
	left
	right
	high
)

// ladder: a policy of four places, with a round of five ticks.
func ladder(t *testing.T) policy.Policy {
	t.Helper()
	p, line, code := policy.Parse(`work 4
give 2
label low 0 8000 1
label left 1:0 8000 100
label right 1:1 8000 200
label high 2:0:1 8000 9
slot low
slot left
slot right
slot high
slot low
grant high low 2
grant left right 1
grant right left 0
grant high left 16
`)
	if code != api.OK {
		t.Fatalf("line %d: %d", line, code)
	}
	return p
}

// at: a new store of a place of the ladder.
func at(t *testing.T, place int) twin {
	t.Helper()
	return begun(ladder(t), place)
}

func newShop(name string, sort uint8) deed.Deed {
	return deed.Deed{Kind: deed.MakeShop, Shop: route.Shop{Name: name, Sort: sort}}
}

func newRelease(name, to string) deed.Deed {
	return deed.Deed{Kind: deed.MakeShop, Shop: route.Shop{Name: name, Sort: route.Release, To: to}}
}

func dropShop(name string) deed.Deed { return deed.Deed{Kind: deed.DropShop, Name: name} }

func newQueue(name string, most, life uint64, dead string) deed.Deed {
	return deed.Deed{Kind: deed.MakeQueue, Queue: stock.Queue{Name: name, Most: most, Life: life, Dead: dead}}
}

func dropQueue(name string) deed.Deed { return deed.Deed{Kind: deed.DropQueue, Name: name} }

func bound(shop, queue string) deed.Deed {
	return deed.Deed{Kind: deed.Bind, Bind: route.Bind{Shop: shop, To: queue}}
}

func up(shop, place string) deed.Deed {
	return deed.Deed{Kind: deed.Bind, Bind: route.Bind{Shop: shop, To: place, Up: true}}
}

func unbound(d deed.Deed) deed.Deed {
	d.Kind = deed.Unbind
	return d
}

func put(tick uint64, shop, body string) deed.Deed {
	return deed.Deed{Kind: deed.Put, Tick: tick, Mail: api.Mail{Shop: shop, Body: body}}
}

func lent(name string) deed.Deed { return deed.Deed{Kind: deed.Lend, Name: name} }

func settled(name string, id uint64, how uint8) deed.Deed {
	return deed.Deed{Kind: deed.Settle, Tick: 77, Name: name, ID: id, How: how}
}

func lateAt(tick uint64) deed.Deed { return deed.Deed{Kind: deed.Late, Tick: tick} }

func pulled(tick uint64, from uint8, number uint64, shop, body string) deed.Deed {
	return deed.Deed{Kind: deed.Pull, Tick: tick, From: from, Number: number, Mail: api.Mail{Shop: shop, Body: body}}
}

func wokenAt(tick uint64) deed.Deed { return deed.Deed{Kind: deed.Wake, Tick: tick} }

func noted(tick uint64, code uint8, text string) deed.Deed {
	return deed.Deed{Kind: deed.Note, Tick: tick, Code: code, Text: text}
}

// ticked: the same, at that tick.
func ticked(tick uint64, d deed.Deed) deed.Deed {
	d.Tick = tick
	return d
}

// Of Types: what notes are about.
func TestConstants(t *testing.T) {
	for at, kind := range []uint8{Lost, Released, Woken, Refused, Begun, Over} {
		if int(kind) != at+1 {
			t.Errorf("%d, wanted %d", kind, at+1)
		}
	}
}

// Of Examples: a queue q of a fanout a: a Put to a goes to one; Lend of q tells it.
func TestExample(t *testing.T) {
	w := at(t, low).all(t, newShop("a", match.Fanout), newQueue("q", 5, 0, ""), bound("a", "q"))
	w = w.counts(t, put(0, "a", "hello"), 1, 0)
	w, r := w.does(t, lent("q"))
	if m := r.Item.Mail; m.ID != 1 || m.Shop != "a" || m.Body != "hello" || !r.Item.Lent || r.Item.Again || r.Count != 0 || r.Lost != 0 {
		t.Errorf("%+v", r)
	}
}

// P23.1: new ones of all places, at all edges of Base and Bytes.
func TestNew(t *testing.T) {
	for place := range 4 {
		w := at(t, place)
		tells(t, "new", w.s, w.p)
		x := w.s.Parts()
		if want := []uint64{1, 100, 200, 9}[place]; x.Stock.Next() != want || x.Stock.Room() != 8000 || x.Stock.Size() != 0 {
			t.Errorf("%d: next %d, room for %d", place, x.Stock.Next(), x.Stock.Room())
		}
		if len(x.Book.Shops())+len(x.Book.Binds())+len(x.Stock.Queues()) > 0 || x.Notes.Total() != 0 || x.Seen != [16]uint64{} || x.Spent != [8]Spent{} {
			t.Errorf("%d: %+v", place, x)
		}
	}
	for _, base := range []uint64{1, 255, 1 << 63, math.MaxUint64} {
		for _, bytes := range []int{0, 1, 25, 65535, 65536} {
			p := policy.Policy{Work: 1, Give: 16, Places: []policy.Place{{Name: "only", Bytes: bytes, Base: base}}, Slots: []int{0}}
			if code := p.Check(); code != api.OK {
				t.Fatal(code)
			}
			x := New(p, 0).Parts()
			if x.Stock.Next() != base || x.Stock.Room() != bytes {
				t.Errorf("%d, %d: next %d, room for %d", base, bytes, x.Stock.Next(), x.Stock.Room())
			}
		}
	}
}

// P23.1: a store with parts has these, of whatever bytes the stock is; it goes on from there.
func TestWith(t *testing.T) {
	p := ladder(t)
	w := begun(p, left).all(t, newShop("a", match.Fanout), newQueue("q", 5, 0, ""), bound("a", "q"), up("a", "high"), put(3, "a", "x"), noted(4, 9, "n"), pulled(5, low, 7, "a", "y"))
	x := w.s.Parts()
	again := twin{With(p, left, x), w.p, nil}
	tells(t, "with", again.s, w.p)
	if !Same(again.s.Parts(), x) {
		t.Error("other parts")
	}
	again = again.counts(t, put(6, "a", "z"), 2, 0)
	is(t, again.queue("q"), "a x 0 0, a y 1 0, a z 0 0")
	tells(t, "as it was", w.s, w.p)

	x.Stock = stock.New(55, 25)
	x.Stock, _ = x.Stock.Make(stock.Queue{Name: "q", Most: 5})
	other := With(p, left, x)
	if got := other.Parts(); got.Stock.Next() != 55 || got.Stock.Room() != 25 || got.Notes.Total() != 1 || got.Seen[low] != 7 {
		t.Errorf("%+v", got)
	}
	empty := With(p, high, Parts{})
	if !Same(empty.Parts(), Parts{}) {
		t.Error("without anything")
	}
	if _, _, code := empty.Do(newQueue("q", 1, 0, "")); code != api.OK {
		t.Errorf("%d", code)
	}
}

// P23.1: the policy and the place are the ones that were told, whosever the parts were.
func TestWithOther(t *testing.T) {
	p := ladder(t)
	x := New(p, low).Parts()
	for place, want := range []api.Errno{api.ErrFlow, api.OK, api.OK, api.ErrFlow} {
		s, _, code := With(p, place, x).Do(newShop("a", match.Fanout))
		if code != api.OK {
			t.Fatal(code)
		}
		if _, _, code = s.Do(up("a", "high")); code != want && place != low {
			t.Errorf("%d: %d, wanted %d", place, code, want)
		}
		if _, _, code = s.Do(newRelease("r", "right")); (code == api.OK) != (place == left) {
			t.Errorf("%d: %d", place, code)
		}
	}
}

// P23.1: parts are the same if each of them is.
func TestSame(t *testing.T) {
	w := at(t, left).all(t, newShop("a", match.Fanout), newQueue("q", 5, 0, ""), bound("a", "q"), put(3, "a", "x"), noted(4, 9, "n"), pulled(5, low, 7, "a", "y"))
	x := w.s.Parts()
	others := []Parts{x, x, x, x, x, x, x, x, x, {}, New(ladder(t), left).Parts()}
	others[0].Book, _ = x.Book.Unbind(route.Bind{Shop: "a", To: "q"})
	others[1].Book, _ = x.Book.Make(route.Shop{Name: "b"})
	others[2].Stock, _, _ = x.Stock.Lend("q")
	others[3].Stock, _, _, _ = x.Stock.Put("q", api.Mail{Shop: "a"})
	others[4].Notes, _ = x.Notes.Add(notes.Note{})
	others[5].Seen[15]++
	others[6].Seen[low]++
	others[7].Spent[7].Round++
	others[8].Spent[0].Count++
	for at, other := range others {
		if Same(x, other) || Same(other, x) || !Same(other, other) {
			t.Errorf("%d", at)
		}
	}
	again := With(ladder(t), left, x)
	if !Same(x, x) || !Same(again.Parts(), x) || !Same(Parts{}, Parts{}) {
		t.Error("the same ones")
	}
}

// P23.2: Check's error comes ahead of all others, for each kind.
func TestCheckFirst(t *testing.T) {
	w := at(t, low)
	for _, c := range []struct {
		d    deed.Deed
		want api.Errno
	}{
		{deed.Deed{Kind: 13}, api.ErrKind},
		{deed.Deed{Kind: 255, Name: "a"}, api.ErrKind},
		{newShop("", route.Release), api.ErrEmpty},
		{newShop("a", 5), api.ErrKind},
		{newRelease("r", "Nowhere"), api.ErrForm},
		{newRelease("r", strings.Repeat("n", 17)), api.ErrLong},
		{dropShop("A"), api.ErrForm},
		{newQueue("", 0, 0, "*"), api.ErrEmpty},
		{newQueue("q", 0, 0, "*"), api.ErrForm},
		{dropQueue(strings.Repeat("q", 17)), api.ErrLong},
		{bound("none", ""), api.ErrEmpty},
		{deed.Deed{Kind: deed.Bind, Bind: route.Bind{Shop: "none", To: "none", Up: true, Key: strings.Repeat("k", 65)}}, api.ErrLong},
		{deed.Deed{Kind: deed.Unbind, Bind: route.Bind{Shop: "none", To: "none", Want: []api.Pair{{Key: "k", Kind: 3}}}}, api.ErrKind},
		{put(0, "", "x"), api.ErrEmpty},
		{put(0, "none", strings.Repeat("b", 257)), api.ErrLong},
		{deed.Deed{Kind: deed.Put, Mail: api.Mail{Shop: "none", Hops: 5}}, api.ErrRange},
		{lent(""), api.ErrEmpty},
		{settled("none", 1, 3), api.ErrRange},
		{deed.Deed{Kind: deed.Late, Name: "q"}, api.ErrForm},
		{deed.Deed{Kind: deed.Pull, From: 200}, api.ErrEmpty},
		{deed.Deed{Kind: deed.Pull, From: 200, Mail: api.Mail{Shop: "none", Hops: 5}}, api.ErrRange},
		{deed.Deed{Kind: deed.Wake, ID: 1}, api.ErrForm},
		{noted(0, 1, strings.Repeat("t", 65)), api.ErrLong},
		{deed.Deed{Kind: deed.Lend, Name: "none", Text: "t"}, api.ErrForm},
	} {
		w.refuses(t, c.d, c.want)
	}
}

// P23.2: exchanges are made and dropped, with layer 14's errors; a Release only to places to which there is a grant.
func TestShops(t *testing.T) {
	w := at(t, high)
	w.refuses(t, dropShop("a"), api.ErrNone)
	w = w.all(t, newShop("a", match.Direct), newShop("a", match.Direct), newShop("b", match.Heads), newRelease("r", "low"), newRelease("s", "left"), newRelease("r", "low"))
	w.refuses(t, newShop("a", match.Fanout), api.ErrThere)
	w.refuses(t, newShop("r", match.Fanout), api.ErrThere)
	w.refuses(t, newRelease("r", "left"), api.ErrThere)
	w.refuses(t, newRelease("a", "low"), api.ErrThere)
	for _, name := range []string{"a", "c"} { // it is told ahead of what layer 14 says
		w.refuses(t, newRelease(name, "nowhere"), api.ErrNone)
		w.refuses(t, newRelease(name, ""), api.ErrNone)
		w.refuses(t, newRelease(name, "right"), api.ErrFlow)
		w.refuses(t, newRelease(name, "high"), api.ErrFlow)
	}
	for sort := range uint8(4) {
		wrong := newRelease("c", "low")
		wrong.Shop.Sort = sort
		w.refuses(t, wrong, api.ErrForm)
		wrong.Shop.To = "nowhere"
		w.refuses(t, wrong, api.ErrForm)
	}
	w = w.all(t, newShop("c", match.Topic), newShop("d", match.Fanout), newShop("e", match.Fanout), newShop("f", match.Fanout))
	w.refuses(t, newShop("g", match.Fanout), api.ErrFull)
	w.refuses(t, newRelease("g", "low"), api.ErrFull)
	w.refuses(t, newRelease("g", "right"), api.ErrFlow)
	w = w.all(t, dropShop("r"), newRelease("g", "low"))
	w.refuses(t, dropShop("r"), api.ErrNone)
}

// P23.2: which places may be released to, from each.
func TestReleasesFrom(t *testing.T) {
	for place := range 4 {
		w := at(t, place)
		for to, name := range []string{"low", "left", "right", "high"} {
			if slices.Contains([]string{"3 0", "1 2", "2 1", "3 1"}, strconv.Itoa(place)+" "+strconv.Itoa(to)) {
				w.all(t, newRelease("r", name))
				continue
			}
			w.refuses(t, newRelease("r", name), api.ErrFlow)
		}
	}
}

// P23.2: queues are made and dropped, with layer 21's errors.
func TestQueues(t *testing.T) {
	w := at(t, low)
	w.refuses(t, dropQueue("q"), api.ErrNone)
	w.refuses(t, newQueue("q", 0, 0, ""), api.ErrRange)
	w.refuses(t, newQueue("q", 65, 0, ""), api.ErrRange)
	w = w.all(t, newQueue("q", 5, 1, "d"), newQueue("q", 5, 1, "d"))
	for _, d := range []deed.Deed{newQueue("q", 6, 1, "d"), newQueue("q", 5, 2, "d"), newQueue("q", 5, 1, "e"), newQueue("q", 5, 1, "")} {
		w.refuses(t, d, api.ErrThere)
	}
	w.refuses(t, newQueue("q", 65, 1, "d"), api.ErrRange)
	for n := range 7 {
		w, _ = w.does(t, newQueue("q"+strconv.Itoa(n), 64, math.MaxUint64, ""))
	}
	w.refuses(t, newQueue("q7", 1, 0, ""), api.ErrFull)
	w = w.all(t, newQueue("q", 5, 1, "d"), dropQueue("q3"), newQueue("q7", 1, 0, ""))
	w.refuses(t, dropQueue("q3"), api.ErrNone)
}

// P23.2: when a queue is dropped its messages and the bindings to it are gone, not those to others, nor up to a place of that name.
func TestDropQueue(t *testing.T) {
	w := at(t, low).all(t, newShop("a", match.Fanout), newShop("b", match.Topic), newQueue("high", 5, 0, "a"), newQueue("q", 5, 0, ""),
		bound("a", "high"), up("a", "high"), bound("b", "q"), bound("b", "high"), put(0, "a", "x"), lent("high"))
	w = w.counts(t, dropQueue("high"), 0, 0)
	if got := w.s.Parts().Book.Binds(); len(got) != 2 || !got[0].Up || got[1].To != "q" {
		t.Errorf("%+v", got)
	}
	is(t, w.rise(high), "a x 0 0")
	is(t, w.noted(), "")
	w = w.counts(t, put(0, "a", "y"), 1, 0)
	w = w.all(t, newQueue("high", 5, 0, "a"))
	w = w.counts(t, put(0, "a", "z"), 1, 0)
	is(t, w.queue("high"), "")
	w.refuses(t, unbound(bound("a", "high")), api.ErrNone)
}

// P23.2: bindings lead to queues that are there, and up to places to which something flows.
func TestBind(t *testing.T) {
	w := at(t, left)
	w.refuses(t, bound("a", "q"), api.ErrNone)
	w.refuses(t, up("a", "nowhere"), api.ErrNone)
	w.refuses(t, up("a", "low"), api.ErrFlow)
	w.refuses(t, up("a", "high"), api.ErrNone)
	w.refuses(t, unbound(bound("a", "q")), api.ErrNone)
	w = w.all(t, newShop("a", match.Topic), newQueue("q", 5, 0, ""), newRelease("r", "right"))
	w.refuses(t, bound("a", "high"), api.ErrNone)
	w.refuses(t, up("a", "q"), api.ErrNone)
	for name, want := range map[string]api.Errno{"low": api.ErrFlow, "left": api.ErrFlow, "right": api.ErrFlow, "nowhere": api.ErrNone} {
		w.refuses(t, up("a", name), want)
		w.refuses(t, up("none", name), want)
		w.refuses(t, up("r", name), want)
	}
	w.refuses(t, up("r", "high"), api.ErrKind)
	w.refuses(t, bound("r", "q"), api.ErrKind)
	w.refuses(t, bound("r", "none"), api.ErrNone)
	w.refuses(t, bound("none", "q"), api.ErrNone)
	for _, d := range []deed.Deed{bound("a", "q"), up("a", "high")} {
		wrong := d
		wrong.Bind.Key = "a..b"
		w.refuses(t, wrong, api.ErrForm)
		w = w.all(t, d, d)
	}
	w = w.all(t, unbound(bound("a", "q")))
	w.refuses(t, unbound(bound("a", "q")), api.ErrNone)
	w.refuses(t, unbound(up("a", "q")), api.ErrNone)
	w.refuses(t, unbound(bound("a", "high")), api.ErrNone)
	w = w.all(t, unbound(up("a", "high")))
	w.refuses(t, unbound(up("a", "high")), api.ErrNone)
}

// P23.2: from each place bindings go up to those to which something flows, to no other.
func TestUpFrom(t *testing.T) {
	for place := range 4 {
		w := at(t, place).all(t, newShop("a", match.Fanout))
		for to, name := range []string{"low", "left", "right", "high"} {
			if to == place || place != low && to != high {
				w.refuses(t, up("a", name), api.ErrFlow)
				continue
			}
			w.all(t, up("a", name))
		}
	}
}

// P23.2: the 32nd and the 33rd binding; what leads nowhere is told ahead of that there is no room.
func TestBindFull(t *testing.T) {
	w := at(t, low).all(t, newShop("a", match.Topic), newQueue("q", 5, 0, ""))
	d := bound("a", "q")
	for n := range 32 {
		d.Bind.Key = "k" + strconv.Itoa(n)
		w, _ = w.does(t, d)
	}
	w = w.all(t, d)
	d.Bind.Key = "k32"
	w.refuses(t, d, api.ErrFull)
	w.refuses(t, up("a", "low"), api.ErrFlow)
	w.refuses(t, up("a", "high"), api.ErrFull)
	w.refuses(t, bound("a", "none"), api.ErrNone)
	d.Bind.Key = "k31"
	w.all(t, unbound(d), up("a", "high"))
}

// P23.2: of a queue the first ready one is lent; ErrNone, ErrEmpty.
func TestLend(t *testing.T) {
	w := at(t, low).all(t, newShop("a", match.Fanout), newQueue("q", 5, 9, ""), bound("a", "q"))
	w.refuses(t, lent("none"), api.ErrNone)
	w.refuses(t, lent("q"), api.ErrEmpty)
	m := api.Mail{ID: 99, Shop: "a", Key: "k.l", Head: []api.Pair{{Key: "h", Num: -1}}, Body: "one", Due: 5, Hops: 3}
	w = w.all(t, deed.Deed{Kind: deed.Put, Tick: 1, Mail: m}, put(1, "a", "two"))
	w, r := w.does(t, ticked(100, lent("q"))) // whose time is over is lent all the same
	if got := r.Item.Mail; got.ID != 1 || got.Key != "k.l" || len(got.Head) != 1 || got.Head[0].Num != -1 || got.Body != "one" || got.Due != 5 || got.Hops != 3 {
		t.Errorf("%+v", r)
	}
	w, r = w.does(t, lent("q"))
	if r.Item.Mail.ID != 2 || r.Item.Mail.Body != "two" || r.Item.Mail.Due != 10 || r.Item.Again {
		t.Errorf("%+v", r)
	}
	w.refuses(t, lent("q"), api.ErrEmpty)
	w = w.all(t, settled("q", 1, 2))
	w, r = w.does(t, lent("q"))
	if r.Item.Mail.ID != 1 || !r.Item.Again || !r.Item.Lent {
		t.Errorf("%+v", r)
	}
}

// P23.2: what was lent is settled in each way; the errors of all of them, and that nothing is done beside one.
func TestSettle(t *testing.T) {
	w := at(t, low).all(t, newShop("a", match.Fanout), newShop("d", match.Fanout), newQueue("q", 5, 0, "d"), newQueue("e", 5, 3, ""),
		bound("a", "q"), bound("d", "e"), put(1, "a", "one"), put(1, "a", "two"))
	for how := range uint8(3) {
		w.refuses(t, settled("none", 1, how), api.ErrNone)
		w.refuses(t, settled("q", 1, how), api.ErrOrder)
		w.refuses(t, settled("q", 0, how), api.ErrNone)
		w.refuses(t, settled("q", 3, how), api.ErrNone)
		w.refuses(t, settled("e", 1, how), api.ErrNone)
	}
	w = w.all(t, lent("q"))
	for how := range uint8(3) {
		w.refuses(t, settled("q", 2, how), api.ErrOrder)
		w.refuses(t, settled("e", 1, how), api.ErrNone)
	}
	gone := w.counts(t, settled("q", 1, 0), 0, 0)
	is(t, gone.queue("q"), "a two 0 0")
	is(t, gone.queue("e"), "")
	dead := w.counts(t, settled("q", 1, 1), 0, 0)
	is(t, dead.queue("q"), "a two 0 0")
	is(t, dead.queue("e"), "d one 1 80") // 77 is when it was settled
	back := w.counts(t, settled("q", 1, 2), 0, 0)
	is(t, back.queue("q"), "a one 0 0, a two 0 0")
	if items := back.s.Parts().Stock.Line("q").All(); items[0].Lent || !items[0].Again || items[1].Again {
		t.Errorf("%+v", items)
	}
	for _, other := range []twin{gone, dead} {
		for how := range uint8(3) {
			other.refuses(t, settled("q", 1, how), api.ErrNone)
		}
	}
	back.refuses(t, settled("q", 1, 2), api.ErrOrder)
	is(t, dead.noted(), "")
}

// P23.2: what is settled by How 1 is lost where it can't be buried, and gone where its queue has no Dead.
func TestSettleLost(t *testing.T) {
	for _, c := range []struct {
		dead  string
		hops  uint8
		lost  int
		notes string
		e     string
	}{
		{"", 0, 0, "", ""},
		{"", 4, 0, "", ""},
		{"none", 0, 1, "77 1 q", ""},
		{"d", 0, 0, "", "d x 1 0"},
		{"d", 3, 0, "", "d x 4 0"},
		{"d", 4, 1, "77 1 q", ""},
		{"nothing", 0, 0, "", ""},
		{"nothing", 4, 1, "77 1 q", ""},
	} {
		w := at(t, low).all(t, newShop("a", match.Fanout), newShop("d", match.Fanout), newShop("nothing", match.Fanout),
			newQueue("q", 5, 0, c.dead), newQueue("e", 5, 0, ""), bound("a", "q"), bound("d", "e"))
		d := put(1, "a", "x")
		d.Mail.Hops, d.Mail.Due = c.hops, 1000
		w = w.all(t, d, lent("q"))
		w = w.counts(t, settled("q", 1, 1), 0, c.lost)
		is(t, w.noted(), c.notes)
		is(t, w.queue("e"), c.e)
		is(t, w.queue("q"), "")
	}
}

// P23.2: nothing is lent any more, of all queues; each Wake is noted.
func TestWake(t *testing.T) {
	w := at(t, low).all(t, newShop("a", match.Fanout), newQueue("q", 5, 0, ""), newQueue("r", 5, 0, ""), bound("a", "q"), bound("a", "r"))
	w = w.counts(t, wokenAt(5), 0, 0)
	w = w.all(t, put(6, "a", "x"), put(6, "a", "y"), lent("q"), lent("q"), lent("r"))
	w = w.counts(t, wokenAt(math.MaxUint64), 0, 0)
	is(t, w.noted(), "5 3, 18446744073709551615 3")
	for name, again := range map[string][2]bool{"q": {true, true}, "r": {true, false}} {
		for at, one := range w.s.Parts().Stock.Line(name).All() {
			if one.Lent || one.Again != again[at] {
				t.Errorf("%s: %+v", name, one)
			}
		}
	}
}

// P23.2: notes of each kind, the last 32 of them; behind 2^64 - 1 there are no more.
func TestNote(t *testing.T) {
	w := at(t, low)
	for _, kind := range []uint8{0, Lost, Released, Woken, Refused, Begun, Over, 7, 255} {
		w = w.counts(t, noted(uint64(kind)*3, kind, "of "+strconv.Itoa(int(kind))), 0, 0)
	}
	is(t, w.noted(), "0 0 of 0, 3 1 of 1, 6 2 of 2, 9 3 of 3, 12 4 of 4, 15 5 of 5, 18 6 of 6, 21 7 of 7, 765 255 of 255")
	for n := range 40 {
		w = w.all(t, noted(uint64(n), 1, strings.Repeat("\x00", n)))
	}
	if n := w.s.Parts().Notes; n.Total() != 49 || len(n.All()) != 32 {
		t.Errorf("%d, %d kept", n.Total(), len(n.All()))
	}
	w.all(t, noted(0, 0, strings.Repeat("t", 64)), noted(0, 0, ""))
	end := w.with(t, func(p *plain) { p.told = math.MaxUint64 - 1 }).all(t, noted(1, 2, "the last"))
	end.refuses(t, noted(1, 2, "one more"), api.ErrEnd)
	end.refuses(t, noted(1, 2, strings.Repeat("t", 65)), api.ErrLong)
}

// P23.2: where the notes tell no number any more nothing is noted, and all else is done.
func TestNotesEnd(t *testing.T) {
	w := at(t, left).all(t, newShop("a", match.Fanout), newRelease("r", "right"), newQueue("q", 1, 0, "none"), bound("a", "q"), wokenAt(1), wokenAt(1))
	for len(w.p.notes) < 32 {
		w, _ = w.does(t, wokenAt(uint64(len(w.p.notes))))
	}
	for _, left := range []uint64{0, 1} {
		end := w.with(t, func(p *plain) { p.told = math.MaxUint64 - left })
		end = end.counts(t, put(2, "r", "out"), 1, 0)
		is(t, end.rise(right), "r out 0 0")
		end = end.counts(t, put(2, "a", "one"), 1, 0)
		end = end.counts(t, put(2, "a", "two"), 1, 1)
		end = end.counts(t, pulled(2, high, 1, "a", "three"), 1, 1)
		end = end.counts(t, pulled(2, low, 1, "none", "four"), 0, 1)
		end = end.all(t, lent("q"), wokenAt(3))
		is(t, end.queue("q"), "a three 1 0")
		end.refuses(t, noted(1, 2, ""), api.ErrEnd)
		if end.s.Parts().Notes.Total() != math.MaxUint64 {
			t.Error("more notes")
		}
	}
}

// Memory: the policy that was handed in may be written over; a store shares nothing with it.
func TestPolicyWrittenOver(t *testing.T) {
	p := ladder(t)
	handed := ladder(t)
	handed.Places = append(make([]policy.Place, 0, 9), handed.Places...)
	fresh := New(handed, left)
	with := With(handed, left, fresh.Parts())
	for at := range handed.Places {
		handed.Places[at] = policy.Place{Name: "over"}
	}
	for at := range handed.Slots {
		handed.Slots[at] = 99
	}
	for at := range handed.Grants {
		handed.Grants[at] = policy.Grant{From: 7, To: 7, Budget: 7}
	}
	for _, s := range []Store{fresh, with} {
		w := twin{s: s, p: blank(p, left)}
		w = w.all(t, newShop("a", match.Fanout), newRelease("r", "right"), up("a", "high"), put(7, "r", "x"), pulled(8, high, 3, "a", "y"), pulled(8, low, 3, "a", "y"))
		w.refuses(t, put(9, "r", "x"), api.ErrGrant)
		is(t, w.noted(), "7 2 right, 8 2 high")
	}
}

// Memory: what parts tell, and what a deed tells, may be written over.
func TestToldWrittenOver(t *testing.T) {
	w := at(t, low).all(t, newShop("a", match.Heads), newQueue("q", 5, 0, ""), newQueue("r", 5, 0, ""))
	d := bound("a", "q")
	d.Bind.Want = []api.Pair{{Key: "h", Num: 4}}
	w = w.all(t, d)
	d.Bind.To = "r"
	w = w.all(t, d, up("a", "high"))
	m := put(1, "a", "x")
	m.Mail.Head = []api.Pair{{Key: "h", Num: 4}, {Key: "i", Kind: 1, Text: "t"}}
	w = w.counts(t, m, 2, 0)
	d = up("a", "high")
	d.Bind.All = true
	w = w.all(t, d).counts(t, m, 3, 0)
	w, r := w.does(t, lent("q"))
	over(r.Item.Mail.Head)
	x := w.s.Parts()
	x.Seen[3], x.Spent[2].Count = 7, 7
	for _, one := range x.Book.Binds() {
		over(one.Want)
	}
	for _, one := range x.Book.Shops() {
		one.Name = "over"
	}
	for _, one := range slices.Concat(x.Stock.Line("q").All(), x.Stock.Line("r").All()) {
		over(one.Mail.Head)
	}
	for _, m := range x.Stock.Rise(high).All() {
		over(m.Head)
	}
	for _, one := range x.Notes.All() {
		one.Text = "over"
	}
	tells(t, "written over", w.s, w.p)
	w.counts(t, m, 3, 0)
}
