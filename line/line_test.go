package line

import (
	"math"
	"slices"
	"strings"
	"testing"

	"stairwell/api"
	"stairwell/mail"
)

// letters: a text of so many of one letter.
func letters(letter string, n int) string { return strings.Repeat(letter, n) }

// sent: a message of that ID.
func sent(id uint64) api.Mail { return api.Mail{ID: id, Shop: "s"} }

// keyed: so many pairs of unlike keys.
func keyed(n int) []api.Pair {
	var l []api.Pair
	for at := range n {
		l = append(l, api.Pair{Key: "k" + letters("x", at), Num: int64(at)})
	}
	return l
}

// items: ready ones of those IDs.
func items(ids ...uint64) plain {
	var p plain
	for _, id := range ids {
		p = append(p, Item{Mail: sent(id)})
	}
	return p
}

// many: so many ready ones, of the IDs 10, 20 ..
func many(n int) plain {
	var p plain
	for at := range n {
		p = append(p, Item{Mail: sent(uint64(10 * (at + 1)))})
	}
	return p
}

// of: the line with just these.
func of(t *testing.T, p plain) Line {
	t.Helper()
	l, code := Of(p)
	if code != api.OK {
		t.Fatalf("Of %+v: %d", p, code)
	}
	return l
}

// adds: the message is added, or not; the line stays as it was.
func adds(t *testing.T, p plain, m api.Mail, want api.Errno) {
	t.Helper()
	l := of(t, p)
	more, code := l.Add(m)
	if code != want {
		t.Errorf("Add of %+v to %d: %d, wanted %d", m, len(p), code, want)
	}
	if want == api.OK {
		tells(t, "Add", more, append(slices.Clip(p), Item{Mail: m}))
	} else {
		tells(t, "Add beside an error", more, p)
	}
	tells(t, "as it was", l, p)
}

// wrongs: messages that may not be, of that ID, and what is said of them.
func wrongs(id uint64) map[api.Errno]api.Mail {
	return map[api.Errno]api.Mail{
		api.ErrEmpty: {ID: id},
		api.ErrForm:  {ID: id, Shop: "A"},
		api.ErrMany:  {ID: id, Shop: "s", Head: keyed(9)},
		api.ErrLong:  {ID: id, Shop: "s", Body: letters("b", 257)},
		api.ErrRange: {ID: id, Shop: "s", Hops: 5},
	}
}

// P18.1 to P18.3: the document's example.
func TestExample(t *testing.T) {
	l := of(t, items(3, 5))
	for _, id := range []uint64{3, 5} {
		var item Item
		var there bool
		if l, item, there = l.Lend(); !there || !same(item, Item{sent(id), true, false}) {
			t.Errorf("%+v, %v", item, there)
		}
	}
	l, code := l.Back(3)
	if m, there := l.First(); code != api.OK || !there || m.ID != 3 {
		t.Errorf("%d, %+v, %v", code, m, there)
	}
	tells(t, "in the end", l, plain{{sent(3), false, true}, {sent(5), true, false}})
}

// P18.1, P18.2: the zero line has none, and nothing comes of it.
func TestZero(t *testing.T) {
	var l Line
	tells(t, "the zero line", l, nil)
	called(t, l, nil, []uint64{0, 1, math.MaxUint64})
	for _, p := range []plain{nil, {}} {
		tells(t, "of none", of(t, p), nil)
	}
	if !Same(Line{}, Line{}) {
		t.Error("two zero lines")
	}
	gone := of(t, items(7))
	gone, _, _ = gone.Remove(7)
	tells(t, "of one that is gone", gone, nil)
	adds(t, nil, sent(0), api.OK)
	adds(t, nil, sent(math.MaxUint64), api.OK)
}

// P18.1: what may be added, and each error of Add; beside it the line is as it was.
func TestAdd(t *testing.T) {
	for _, n := range []int{0, 1, 2, 62, 63} {
		p := many(n)
		last := uint64(10 * n)
		for _, id := range []uint64{last + 1, last + 5, last + 1000, math.MaxUint64} {
			adds(t, p, sent(id), api.OK)
			adds(t, p, api.Mail{ID: id, Shop: "sixteen-bytes-it", Key: "a.b", Head: keyed(8), Body: letters("b", 256), Due: 9, Hops: 4}, api.OK)
		}
		for code, m := range wrongs(last + 1) {
			adds(t, p, m, code)
		}
		for _, one := range p {
			for _, id := range []uint64{0, one.Mail.ID - 1, one.Mail.ID} {
				adds(t, p, sent(id), api.ErrOrder)
			}
		}
	}
	adds(t, items(math.MaxUint64), sent(math.MaxUint64), api.ErrOrder)
	adds(t, items(0), sent(0), api.ErrOrder)
}

// P18.1: 64 have room, one more hasn't; which of two errors comes first.
func TestAddFull(t *testing.T) {
	p := many(64)
	for _, l := range []plain{p, lentAll(p), p.wake()} {
		adds(t, l, sent(641), api.ErrFull)
		adds(t, l, sent(math.MaxUint64), api.ErrFull)
		for _, id := range []uint64{0, 10, 15, 639, 640} {
			adds(t, l, sent(id), api.ErrOrder)
		}
		for _, id := range []uint64{0, 10, 640, 641} {
			for code, m := range wrongs(id) {
				adds(t, l, m, code)
			}
		}
	}
	for code, m := range wrongs(10) {
		adds(t, many(1), m, code)
		adds(t, many(5), m, code)
	}
	for _, id := range []uint64{10, 300, 640} { // where one is gone, there is room again
		l, _, _ := of(t, p).Remove(id)
		want, _, _ := p.remove(id)
		more, code := l.Add(sent(641))
		if code != api.OK {
			t.Errorf("without %d: %d", id, code)
		}
		tells(t, "one gone, one come", more, append(slices.Clip(want), Item{Mail: sent(641)}))
	}
}

// lentAll: the same, all of them lent.
func lentAll(p plain) plain {
	p = slices.Clone(p)
	for at := range p {
		p[at].Lent = true
	}
	return p
}

// P18.1: all are lent, one by one, in order; then none is ready; what comes back, or comes in, is next by its place.
func TestLendAll(t *testing.T) {
	for _, n := range []int{1, 2, 5, 64} {
		p := many(n)
		l := of(t, p)
		for at := range n {
			lent, item, there := l.Lend()
			if !there || !same(item, Item{p[at].Mail, true, false}) {
				t.Fatalf("%d: %+v, %v", at, item, there)
			}
			l, p = lent, p.with(at, item)
			tells(t, "lent", l, p)
		}
		if more, item, there := l.Lend(); there || !same(item, Item{}) {
			t.Errorf("all are lent: %+v", item)
		} else {
			tells(t, "none to lend", more, p)
		}
		for at := n - 1; at >= 0; at-- { // each one that comes back stands ahead of those that came back before
			var code api.Errno
			if l, code = l.Back(p[at].Mail.ID); code != api.OK {
				t.Fatalf("Back of %d: %d", at, code)
			}
			p = p.with(at, Item{p[at].Mail, false, true})
			tells(t, "back", l, p)
			if _, item, there := l.Lend(); !there || !same(item, Item{p[at].Mail, true, true}) {
				t.Fatalf("lent again: %+v, %v", item, there)
			}
		}
		tells(t, "woken", of(t, lentAll(many(n))).Wake(), p)
		tells(t, "woken, though none is lent", l.Wake(), p)
	}
}

// P18.1: Back and Remove, of those that are there, and of others.
func TestBackAndRemove(t *testing.T) {
	p := plain{{sent(3), false, false}, {sent(5), true, false}, {sent(7), false, true}, {sent(9), true, true}}
	called(t, of(t, p), p, []uint64{0, 1, 2, 3, 4, 5, 6, 7, 8, 9, 10, math.MaxUint64})
	for id, want := range map[uint64]api.Errno{0: api.ErrNone, 3: api.ErrOrder, 4: api.ErrNone, 5: api.OK, 7: api.ErrOrder, 9: api.OK, 10: api.ErrNone} {
		if _, code := of(t, p).Back(id); code != want {
			t.Errorf("Back of %d: %d, wanted %d", id, code, want)
		}
	}
	for at, one := range p {
		l, item, code := of(t, p).Remove(one.Mail.ID)
		if code != api.OK || !same(item, one) {
			t.Errorf("Remove: %+v, %d", item, code)
		}
		tells(t, "removed", l, append(slices.Clone(p[:at]), p[at+1:]...))
		again, item, code := l.Remove(one.Mail.ID)
		if code != api.ErrNone || !same(item, Item{}) || !Same(again, l) {
			t.Errorf("Remove again: %+v, %d", item, code)
		}
		if _, code := l.Back(one.Mail.ID); code != api.ErrNone {
			t.Errorf("Back of one that is gone: %d", code)
		}
	}
}

// P18.2: Late goes by Due, of ready ones alone, and by their order in the line.
func TestLate(t *testing.T) {
	due := func(id, due uint64, lent bool) Item { return Item{api.Mail{ID: id, Shop: "s", Due: due}, lent, false} }
	p := plain{due(1, 0, false), due(2, 9, false), due(3, 5, true), due(4, 7, false), due(5, 6, false), due(6, 1, true), due(7, math.MaxUint64, false)}
	for _, c := range []struct {
		tick, want uint64 // want is an ID, 0 of none
	}{{0, 0}, {1, 0}, {4, 0}, {5, 0}, {6, 5}, {7, 4}, {8, 4}, {9, 2}, {10, 2}, {math.MaxUint64 - 1, 2}, {math.MaxUint64, 2}} {
		m, there := of(t, p).Late(c.tick)
		if m.ID != c.want || there != (c.want != 0) {
			t.Errorf("at %d: %+v, %v, wanted %d", c.tick, m, there, c.want)
		}
	}
	for _, one := range []uint64{1, 5, math.MaxUint64} { // of that tick, one less, one more
		l := of(t, plain{due(1, one, false)})
		for tick, want := range map[uint64]bool{0: false, one - 1: false, one: true, max(one, one+1): true, math.MaxUint64: true} {
			if m, there := l.Late(tick); there != want || there && m.Due != one || !there && !alike(m, api.Mail{}) {
				t.Errorf("Due %d at %d: %+v, %v", one, tick, m, there)
			}
		}
	}
	l := of(t, plain{due(1, 0, false), due(2, 0, false)})
	for _, tick := range []uint64{0, 1, math.MaxUint64} {
		if m, there := l.Late(tick); there || !alike(m, api.Mail{}) {
			t.Errorf("without Due, at %d: %+v", tick, m)
		}
	}
}

// P18.2: how many bytes the messages have together, ready or lent.
func TestSize(t *testing.T) {
	p := plain{{api.Mail{Shop: "a"}, false, false}, {api.Mail{ID: 1, Shop: "ab", Body: letters("b", 256)}, true, false}, {api.Mail{ID: 2, Shop: "a", Head: keyed(8)}, false, true}}
	if got, want := of(t, p).Size(), 25+(26+256)+mail.Size(p[2].Mail); got != want {
		t.Errorf("%d, wanted %d", got, want)
	}
	if got := of(t, p[:1]).Size(); got != 25 {
		t.Errorf("one: %d", got)
	}
}

// refuses: of the items there is no line, with that error.
func refuses(t *testing.T, p plain, want api.Errno) {
	t.Helper()
	l, code := Of(p)
	if code != want {
		t.Errorf("%d items: %d, wanted %d", len(p), code, want)
	}
	tells(t, "Of, beside an error", l, nil)
}

// P18.2: of which items there is a line, and the error of the first that can't stand.
func TestOf(t *testing.T) {
	for _, n := range []int{0, 1, 2, 63, 64} {
		for _, p := range []plain{many(n), lentAll(many(n)), lentAll(many(n)).wake(), lentAll(lentAll(many(n)).wake())} {
			tells(t, "Of", of(t, p), p)
		}
	}
	for _, n := range []int{65, 66, 200} {
		refuses(t, many(n), api.ErrFull)
		refuses(t, lentAll(many(n)), api.ErrFull)
	}
	refuses(t, items(1, 1), api.ErrOrder)
	refuses(t, items(2, 1), api.ErrOrder)
	refuses(t, items(0, 0), api.ErrOrder)
	refuses(t, items(1, 2, 3, 2), api.ErrOrder)
	refuses(t, items(math.MaxUint64, 0), api.ErrOrder)
	refuses(t, plain{{}}, api.ErrEmpty)
	for code, m := range wrongs(25) {
		for at := range 4 { // wherever it stands; its ID may be a wrong one, too
			p := slices.Insert(many(3), at, Item{m, at%2 == 0, at > 1})
			refuses(t, p, code)
		}
		refuses(t, append(many(64), Item{Mail: m}), code)
		refuses(t, append(many(65), Item{Mail: m}), api.ErrFull)
		refuses(t, append(items(2, 1), Item{Mail: m}), api.ErrOrder)
		refuses(t, append(items(2), Item{Mail: m}, Item{Mail: sent(1)}), code)
	}
	refuses(t, append(many(64), items(640)...), api.ErrOrder)
	refuses(t, append(many(65), items(1)...), api.ErrFull)
	refuses(t, append(many(64), items(1, 700)...), api.ErrOrder)
}

// P18.2: two are the same, if they have the same, in the same order, lent and marked alike.
func TestSame(t *testing.T) {
	full := api.Mail{ID: 4, Shop: "s", Key: "k", Head: keyed(2), Body: "b", Due: 5, Hops: 1}
	lists := []plain{nil, items(3), items(4), items(3, 4), items(3, 5), items(3, 4, 5), many(64), many(63), lentAll(many(64))}
	for _, change := range []func(*Item){
		func(one *Item) {},
		func(one *Item) { one.Lent = true },
		func(one *Item) { one.Again = true },
		func(one *Item) { one.Lent, one.Again = true, true },
		func(one *Item) { one.Mail.ID = 5 },
		func(one *Item) { one.Mail.Shop = "t" },
		func(one *Item) { one.Mail.Key = "" },
		func(one *Item) { one.Mail.Head = keyed(1) },
		func(one *Item) { one.Mail.Head = nil },
		func(one *Item) { one.Mail.Body = "c" },
		func(one *Item) { one.Mail.Due = 6 },
		func(one *Item) { one.Mail.Hops = 2 },
	} {
		one := Item{Mail: full}
		change(&one)
		lists = append(lists, plain{one}, append(items(3), one), append(plain{one}, items(9)...))
	}
	for x, a := range lists {
		for y, b := range lists {
			if got := Same(of(t, a), of(t, b)); got != (x == y) {
				t.Errorf("%+v and %+v: %v", a, b, got)
			}
		}
	}
	if !Same(of(t, items(3)), of(t, plain{{Mail: api.Mail{ID: 3, Shop: "s", Head: []api.Pair{}}}})) {
		t.Error("a head without pairs")
	}
	l, _, _ := of(t, items(3, 4)).Lend()
	if l, _ = l.Back(3); Same(l, of(t, items(3, 4))) || !Same(l, of(t, plain{{sent(3), false, true}, {sent(4), false, false}})) {
		t.Error("one that was lent, and came back")
	}
}

// P18.3: whatever is lent, comes back, is woken and removed: what is handed out is the first that is ready, and what is gone
// doesn't come again.
func TestOnce(t *testing.T) {
	for mask := range 1 << 5 { // those that come back the first time
		l := of(t, many(5))
		var got []uint64
		for at := 0; ; at++ {
			lent, item, there := l.Lend()
			if !there {
				break
			}
			l = lent
			if !item.Again && mask>>(item.Mail.ID/10-1)&1 != 0 {
				l, _ = l.Back(item.Mail.ID)
				continue
			}
			l, _, _ = l.Remove(item.Mail.ID)
			got = append(got, item.Mail.ID)
		}
		if want := []uint64{10, 20, 30, 40, 50}; !slices.Equal(got, want) || l.Len() != 0 {
			t.Errorf("%b: %d, wanted %d", mask, got, want)
		}
	}
	l := of(t, many(5))
	for range 3 {
		l, _, _ = l.Lend()
	}
	l, _, _ = l.Remove(20)
	l = l.Wake()
	tells(t, "woken", l, plain{{sent(10), false, true}, {sent(30), false, true}, {sent(40), false, false}, {sent(50), false, false}})
}

// Memory: of one line others are made, each with one more: none has the other's, however much room there is.
func TestLineStays(t *testing.T) {
	for n := range 64 {
		p := many(n)
		was := of(t, p)
		one, _ := was.Add(sent(1001))
		other, _ := was.Add(sent(1002))
		less, _, _ := one.Remove(1001)
		more, _ := less.Add(sent(1003))
		lent, _, _ := one.Lend()
		tells(t, "was", was, p)
		tells(t, "one", one, append(slices.Clip(p), items(1001)...))
		tells(t, "other", other, append(slices.Clip(p), items(1002)...))
		tells(t, "less", less, p)
		tells(t, "more", more, append(slices.Clip(p), items(1003)...))
		want, _, _ := append(slices.Clip(p), items(1001)...).lend()
		tells(t, "lent", lent, want)
		tells(t, "woken", lent.Wake(), want.wake())
		tells(t, "lent yet", lent, want)
	}
}

// over: a head is written over, its spare room too.
func over(h []api.Pair) {
	for at := range h[:cap(h)] {
		h[:cap(h)][at] = api.Pair{Key: "over"}
	}
}

// Memory: what is handed in is neither changed nor kept, and no two answers share anything, nor any with the line.
func TestMemory(t *testing.T) {
	full := func(id uint64) api.Mail { return api.Mail{ID: id, Shop: "s", Head: keyed(2), Due: 1} }
	want := plain{{full(1), false, false}, {full(2), false, true}, {full(3), false, false}}
	handed := []Item{{full(1), false, false}, {full(2), false, true}, {sent(9), false, false}}
	l, _ := Of(handed[:2])
	if handed[2].Mail.ID != 9 || len(handed[0].Mail.Head) != 2 {
		t.Errorf("%+v", handed)
	}
	m := full(3)
	m.Head = append(keyed(2), api.Pair{Key: "spare"})[:2]
	l, _ = l.Add(m)
	if m.Head[:3][2].Key != "spare" {
		t.Errorf("%+v", m.Head[:3])
	}
	over(m.Head)
	over(handed[0].Mail.Head)
	over(handed[1].Mail.Head)
	handed[0] = Item{}
	tells(t, "of what was handed in", l, want)

	lent, one, _ := l.Lend()
	_, two, _ := l.Lend()
	_, three, _ := l.Remove(1)
	first, _ := l.First()
	late, _ := l.Late(1)
	all, other := l.All(), l.All()
	for _, h := range [][]api.Pair{one.Mail.Head, three.Mail.Head, first.Head, all[0].Mail.Head, all[1].Mail.Head, all[2].Mail.Head} {
		over(h)
	}
	all[0] = Item{}
	all = append(all[:1], Item{})
	for _, got := range []api.Mail{two.Mail, late, other[0].Mail} {
		if !alike(got, full(1)) {
			t.Errorf("%+v", got)
		}
	}
	tells(t, "told", l, want)
	tells(t, "lent", lent, want.with(0, Item{full(1), true, false}))
	if !slices.EqualFunc(other, want, same) || len(all) != 2 {
		t.Errorf("%+v", other)
	}
}
