package chans

import (
	"slices"
	"strconv"
	"strings"
	"testing"

	"stairwell/api"
	"stairwell/deed"
)

// lents: so many, of IDs from 1 on, of the queue q.
func lents(n int) []Lent {
	var l []Lent
	for at := range n {
		l = append(l, Lent{uint64(at + 1), "q"})
	}
	return l
}

// drafting: a new one that drafts, with what is unsettled.
func drafting(t *testing.T, l ...Lent) twin {
	t.Helper()
	return fine(t)(fresh().lend(t, l...).drafts(t))
}

// P27.1: New: of the credit 16, without anything.
func TestNew(t *testing.T) {
	c := New()
	tells(t, "new", c, fresh().p)
	if c.Room() != 16 || len(c.Takers()) != 0 || len(c.Unsettled()) != 0 || c.Number() != 0 || c.Drafts() {
		t.Errorf("%d, %v, %v, %d, %v", c.Room(), c.Takers(), c.Unsettled(), c.Number(), c.Drafts())
	}
	_, number := fresh().put(t)
	if number != 0 {
		t.Errorf("it is sure: %d", number)
	}
	refused(t, "Held", api.ErrOrder)(fresh().undo(t))
}

// P27.1: the document's example: of the credit 1, with one unsettled, Room is 0.
func TestExample(t *testing.T) {
	c, code := New().Credit(1)
	if code != api.OK || c.Room() != 1 || c.Lend(Lent{1, "q"}).Room() != 0 {
		t.Errorf("%d, %d, %d", code, c.Room(), c.Lend(Lent{1, "q"}).Room())
	}
}

// P27.1: Credit of 0 to 20, and of numbers that are one of these in fewer bits; with nothing unsettled, and with up to 18.
func TestCredit(t *testing.T) {
	others := []uint64{255, 256, 257, 272, 1<<16 + 1, 1 << 31, 1<<32 + 1, 1<<32 + 16, 1 << 63, most - 15, most}
	for count := range 19 {
		w := fresh().lend(t, lents(count)...)
		for n := range uint64(21) {
			more, code := w.credit(t, n)
			if (code == api.OK) != (1 <= n && n <= 16) {
				t.Errorf("%d: %d", n, code)
			}
			again, _ := more.credit(t, 16)
			again.credit(t, 17)
		}
		for _, n := range others {
			refused(t, "too great", api.ErrRange)(w.credit(t, n))
		}
	}
	low := fine(t)(fresh().credit(t, 3))
	refused(t, "0", api.ErrRange)(low.credit(t, 0))
	refused(t, "17", api.ErrRange)(low.credit(t, 17))
}

// P27.1: Room, of a credit just filled, below what is unsettled, and as that goes.
func TestRoom(t *testing.T) {
	for credit := uint64(1); credit <= 16; credit++ {
		w := fine(t)(fresh().credit(t, credit))
		for n, x := range lents(18) {
			w = w.lend(t, x)
			if got, want := w.c.Room(), max(int(credit)-n-1, 0); got != want {
				t.Errorf("%d of %d: %d, wanted %d", n+1, credit, got, want)
			}
		}
		for n, x := range lents(18) {
			w = w.gone(t, settle("q", x.ID, 0))
			if got, want := w.c.Room(), max(int(credit)-17+n, 0); got != want {
				t.Errorf("%d gone of 18, of %d: %d, wanted %d", n+1, credit, got, want)
			}
		}
	}
	w := fresh().lend(t, lents(16)...)
	if below := fine(t)(w.credit(t, 5)); w.c.Room() != 0 || below.c.Room() != 0 || below.c.Lend(Lent{77, "q"}).Room() != 0 {
		t.Errorf("%d, %d", w.c.Room(), below.c.Room())
	}
}

// P27.1: Take of tags at the edges, of queues of any name, of one queue for several.
func TestTake(t *testing.T) {
	for _, tag := range []uint64{0, 1, 2, 127, 128, 254, 255} {
		for _, queue := range []string{"q", "", "no name at all", strings.Repeat("q", 100)} {
			w := fine(t)(fresh().take(t, tag, queue))
			if got := w.c.Takers(); len(got) != 1 || got[0] != (Taker{tag, queue}) {
				t.Errorf("%v", got)
			}
		}
	}
	for _, tag := range []uint64{256, 257, 511, 512, 1 << 32, 1<<32 + 1, most - 255, most} {
		refused(t, "no tag", api.ErrRange)(fresh().take(t, tag, "q"))
	}
	w := fine(t)(fresh().take(t, 7, "q"))
	refused(t, "there", api.ErrThere)(w.take(t, 7, "q"))
	refused(t, "there, of another queue", api.ErrThere)(w.take(t, 7, "u"))
	w = fine(t)(w.take(t, 6, "q"))
	w = fine(t)(w.take(t, 8, "u"))
	if got := w.c.Takers(); !slices.Equal(got, []Taker{{7, "q"}, {6, "q"}, {8, "u"}}) {
		t.Errorf("%v", got)
	}
}

// P27.1: 4 takers, and one more; which of two errors comes first.
func TestTakeFull(t *testing.T) {
	w := fresh()
	tags := []uint64{255, 0, 3, 2}
	for _, tag := range tags {
		refused(t, "too great", api.ErrRange)(w.take(t, 256, "q"))
		w = fine(t)(w.take(t, tag, "q"+strconv.Itoa(int(tag))))
	}
	refused(t, "one more", api.ErrFull)(w.take(t, 1, "q"))
	refused(t, "one more, of a queue that has one", api.ErrFull)(w.take(t, 254, "q3"))
	for _, tag := range tags {
		refused(t, "ErrThere ahead of ErrFull", api.ErrThere)(w.take(t, tag, "q"))
	}
	refused(t, "ErrRange ahead of ErrFull", api.ErrRange)(w.take(t, 256, "q"))
	refused(t, "ErrRange ahead of ErrThere", api.ErrRange)(w.take(t, 256+255, "q"))
	for at, tag := range tags {
		left := fine(t)(w.leave(t, tag))
		refused(t, "gone again", api.ErrNone)(left.leave(t, tag))
		refused(t, "another one there yet", api.ErrThere)(left.take(t, tags[(at+1)%4], "q"))
		again := fine(t)(left.take(t, tag, "again"))
		if got := again.c.Takers(); got[3] != (Taker{tag, "again"}) {
			t.Errorf("%v", got)
		}
		fine(t)(left.take(t, 1, "another"))
	}
}

// P27.1: Leave of the first, the last, one between, one that isn't there, one that is gone; it comes again behind all others.
func TestLeave(t *testing.T) {
	refused(t, "none there", api.ErrNone)(fresh().leave(t, 0))
	w := fresh()
	for tag := range uint64(4) {
		w = fine(t)(w.take(t, tag, "q"))
	}
	for _, tag := range []uint64{4, 255, 256, 257, 1 << 32, most} {
		refused(t, "not there", api.ErrNone)(w.leave(t, tag))
	}
	for first := range uint64(4) {
		for second := range uint64(4) {
			left := fine(t)(w.leave(t, first))
			if first == second {
				refused(t, "gone", api.ErrNone)(left.leave(t, second))
				continue
			}
			left = fine(t)(left.leave(t, second))
			left = fine(t)(left.take(t, first, "u"))
			left = fine(t)(left.take(t, second, "v"))
			refused(t, "five", api.ErrFull)(left.take(t, 9, "q"))
			if got := left.c.Takers(); got[2] != (Taker{first, "u"}) || got[3] != (Taker{second, "v"}) {
				t.Errorf("%v", got)
			}
		}
	}
}

// P27.1: what is lent is unsettled, in order, of any IDs and queues, however often, whatever the credit is.
func TestLend(t *testing.T) {
	l := []Lent{{5, "q"}, {3, "u"}, {5, "u"}, {0, ""}, {most, "no name at all"}, {5, "q"}, {3, "u"}}
	w := fresh().lend(t, l...)
	if got := w.c.Unsettled(); !slices.Equal(got, l) {
		t.Errorf("%v", got)
	}
	w = fine(t)(fresh().credit(t, 1)).lend(t, lents(40)...)
	if got := w.c.Unsettled(); !slices.Equal(got, lents(40)) || w.c.Room() != 0 {
		t.Errorf("%v, %d", got, w.c.Room())
	}
}

// P27.2: Settles of the first, of the last, of one between; alone, and upto; of each How; at the tick 0.
func TestSettles(t *testing.T) {
	w := fresh().lend(t, Lent{4, "q"}, Lent{2, "u"}, Lent{9, "q"})
	one, two, three := settle("q", 4, 1), settle("u", 2, 1), settle("q", 9, 1)
	for _, x := range []struct {
		id   uint64
		upto bool
		want []deed.Deed
	}{
		{4, false, []deed.Deed{one}}, {2, false, []deed.Deed{two}}, {9, false, []deed.Deed{three}},
		{4, true, []deed.Deed{one}}, {2, true, []deed.Deed{one, two}}, {9, true, []deed.Deed{one, two, three}},
	} {
		for how := range uint64(3) {
			for at := range x.want {
				x.want[at].How = uint8(how)
			}
			if got, code := w.c.Settles(x.id, how, x.upto); code != api.OK || !sameDeeds(got, x.want) {
				t.Errorf("%d, %d, %v: %+v, %d", x.id, how, x.upto, got, code)
			}
		}
	}
	tells(t, "as it was", w.c, w.p)
}

// P27.2: Settles' errors, ErrRange ahead of ErrNone.
func TestSettlesErrors(t *testing.T) {
	w := fresh().lend(t, Lent{4, "q"}, Lent{2, "u"})
	for _, c := range []Chan{New(), w.c, drafting(t, Lent{4, "q"}).c} {
		for _, upto := range []bool{false, true} {
			for _, id := range []uint64{0, 1, 3, 5, most} {
				for how := range uint64(3) {
					if l, code := c.Settles(id, how, upto); len(l) != 0 || code != api.ErrNone {
						t.Errorf("%d, %d, %v: %+v, %d", id, how, upto, l, code)
					}
				}
			}
			for _, id := range []uint64{1, 2, 4} {
				for _, how := range []uint64{3, 4, 255, 256, 257, 258, 1 << 32, 1<<32 + 1, most} {
					if l, code := c.Settles(id, how, upto); len(l) != 0 || code != api.ErrRange {
						t.Errorf("%d, %d, %v: %+v, %d", id, how, upto, l, code)
					}
				}
			}
		}
	}
}

// P27.2: of one ID that stands there twice, of two queues, or of one, it is the first.
func TestSettlesTwice(t *testing.T) {
	w := fresh().lend(t, Lent{1, "q"}, Lent{2, "u"}, Lent{2, "q"}, Lent{1, "u"}, Lent{3, "q"}, Lent{3, "q"})
	for _, x := range []struct {
		id    uint64
		alone []deed.Deed
		upto  []deed.Deed
	}{
		{1, []deed.Deed{settle("q", 1, 0)}, []deed.Deed{settle("q", 1, 0)}},
		{2, []deed.Deed{settle("u", 2, 0)}, []deed.Deed{settle("q", 1, 0), settle("u", 2, 0)}},
		{3, []deed.Deed{settle("q", 3, 0)}, []deed.Deed{settle("q", 1, 0), settle("u", 2, 0), settle("q", 2, 0), settle("u", 1, 0), settle("q", 3, 0)}},
	} {
		if got, code := w.c.Settles(x.id, 0, false); code != api.OK || !sameDeeds(got, x.alone) {
			t.Errorf("%d: %+v, %d", x.id, got, code)
		}
		if got, code := w.c.Settles(x.id, 0, true); code != api.OK || !sameDeeds(got, x.upto) {
			t.Errorf("%d upto: %+v, %d", x.id, got, code)
		}
	}
	w = w.gone(t, settle("q", 1, 0), settle("u", 2, 0))
	if got, code := w.c.Settles(1, 0, true); code != api.OK || !sameDeeds(got, []deed.Deed{settle("q", 2, 0), settle("u", 1, 0)}) {
		t.Errorf("%+v, %d", got, code)
	}
}

// P27.2: what the draft settles isn't open: alone ErrNone, upto left out; of one ID and another queue the next one is found;
// behind Undo all are open.
func TestSettlesDrafted(t *testing.T) {
	w := drafting(t, Lent{1, "q"}, Lent{2, "q"}, Lent{2, "u"}, Lent{3, "q"})
	w = fine(t)(w.hold(t, put("b", 1), settle("q", 2, 1)))
	for _, x := range []struct {
		id   uint64
		upto bool
		want []deed.Deed
	}{
		{1, true, []deed.Deed{settle("q", 1, 0)}}, {2, false, []deed.Deed{settle("u", 2, 0)}},
		{2, true, []deed.Deed{settle("q", 1, 0), settle("u", 2, 0)}}, {3, true, []deed.Deed{settle("q", 1, 0), settle("u", 2, 0), settle("q", 3, 0)}},
	} {
		if got, code := w.c.Settles(x.id, 0, x.upto); code != api.OK || !sameDeeds(got, x.want) {
			t.Errorf("%d, %v: %+v, %d", x.id, x.upto, got, code)
		}
	}
	part := fine(t)(w.hold(t, settle("q", 3, 0), settle("u", 2, 2)))
	for _, id := range []uint64{2, 3} {
		for _, upto := range []bool{false, true} {
			if got, code := part.c.Settles(id, 0, upto); len(got) != 0 || code != api.ErrNone {
				t.Errorf("%d, %v: %+v, %d", id, upto, got, code)
			}
		}
	}
	whole := fine(t)(part.hold(t, settle("q", 1, 0)))
	if len(whole.c.Unsettled()) != 4 || whole.c.Room() != 12 {
		t.Errorf("%v, %d", whole.c.Unsettled(), whole.c.Room())
	}
	again := fine(t)(whole.undo(t))
	if got, code := again.c.Settles(3, 2, true); code != api.OK || len(got) != 4 {
		t.Errorf("%+v, %d", got, code)
	}
	twice := fine(t)(drafting(t, Lent{1, "q"}, Lent{1, "q"}, Lent{2, "q"}).hold(t, settle("q", 1, 0)))
	if got, code := twice.c.Settles(2, 0, true); code != api.OK || !sameDeeds(got, []deed.Deed{settle("q", 2, 0)}) {
		t.Errorf("%+v, %d", got, code)
	}
}

// P27.2: Gone of Settles, of which some have no unsettled one, of one ID and another queue, of any How and tick.
func TestGone(t *testing.T) {
	w := fresh().lend(t, Lent{1, "q"}, Lent{2, "u"}, Lent{1, "u"}, Lent{3, "q"})
	for _, x := range []struct {
		what string
		gone []deed.Deed
		want []Lent
	}{
		{"none", nil, []Lent{{1, "q"}, {2, "u"}, {1, "u"}, {3, "q"}}},
		{"the first", []deed.Deed{settle("q", 1, 0)}, []Lent{{2, "u"}, {1, "u"}, {3, "q"}}},
		{"the last", []deed.Deed{settle("q", 3, 2)}, []Lent{{1, "q"}, {2, "u"}, {1, "u"}}},
		{"one between", []deed.Deed{settle("u", 1, 1)}, []Lent{{1, "q"}, {2, "u"}, {3, "q"}}},
		{"another queue", []deed.Deed{settle("q", 2, 0)}, []Lent{{1, "q"}, {2, "u"}, {1, "u"}, {3, "q"}}},
		{"another ID", []deed.Deed{settle("q", 4, 0)}, []Lent{{1, "q"}, {2, "u"}, {1, "u"}, {3, "q"}}},
		{"none of some", []deed.Deed{settle("v", 1, 0), settle("q", 1, 0), settle("q", 1, 0), settle("u", 2, 0)}, []Lent{{1, "u"}, {3, "q"}}},
		{"in another order", []deed.Deed{settle("q", 3, 0), settle("u", 2, 1), settle("q", 1, 2), settle("u", 1, 0)}, nil},
		{"of a tick, and no How", []deed.Deed{{Kind: deed.Settle, Tick: 9, Name: "q", ID: 1, How: 7}}, []Lent{{2, "u"}, {1, "u"}, {3, "q"}}},
	} {
		if got := w.gone(t, x.gone...).c.Unsettled(); !slices.Equal(got, x.want) {
			t.Errorf("%s: %v, wanted %v", x.what, got, x.want)
		}
	}
}

// P27.2: Gone of deeds that are no Settles changes nothing, whatever they tell beside.
func TestGoneOthers(t *testing.T) {
	w := fresh().lend(t, Lent{1, "q"}, Lent{2, "u"})
	for kind := range 256 {
		if kind == int(deed.Settle) {
			continue
		}
		other := deed.Deed{Kind: uint8(kind), Name: "q", ID: 1}
		if got := w.gone(t, other, other).c.Unsettled(); len(got) != 2 {
			t.Errorf("%d: %v", kind, got)
		}
		if got := w.gone(t, other, settle("u", 2, 0), other).c.Unsettled(); !slices.Equal(got, []Lent{{1, "q"}}) {
			t.Errorf("%d: %v", kind, got)
		}
	}
}

// P27.2: of one ID and one queue that stands there twice the first one goes, once for each Settle.
func TestGoneTwice(t *testing.T) {
	w := fresh().lend(t, Lent{1, "q"}, Lent{2, "q"}, Lent{1, "q"}, Lent{3, "q"}, Lent{1, "q"})
	for _, want := range [][]Lent{
		{{2, "q"}, {1, "q"}, {3, "q"}, {1, "q"}}, {{2, "q"}, {3, "q"}, {1, "q"}}, {{2, "q"}, {3, "q"}}, {{2, "q"}, {3, "q"}},
	} {
		w = w.gone(t, settle("q", 1, 0))
		if got := w.c.Unsettled(); !slices.Equal(got, want) {
			t.Errorf("%v, wanted %v", got, want)
		}
	}
}

// P27.2: what goes stays in the draft that settles it; what is lent anew of that ID and queue isn't open.
func TestGoneDrafted(t *testing.T) {
	w := fine(t)(drafting(t, Lent{1, "q"}, Lent{2, "q"}).hold(t, settle("q", 1, 0))).gone(t, settle("q", 1, 0))
	l, code := w.c.Held(3)
	if code != api.OK || len(l) != 1 || len(w.c.Unsettled()) != 1 {
		t.Errorf("%+v, %d", l, code)
	}
	w = w.lend(t, Lent{1, "q"})
	if _, code := w.c.Settles(1, 0, false); code != api.ErrNone {
		t.Errorf("%d", code)
	}
}

// P27.3: a channel that is sure numbers its Puts from 1 on; Sure again changes nothing.
func TestSure(t *testing.T) {
	w := fresh()
	for range 3 {
		var number uint64
		if w, number = w.put(t); number != 0 {
			t.Errorf("a number, where it isn't sure: %d", number)
		}
	}
	w = fine(t)(w.surely(t))
	if w.c.Number() != 0 {
		t.Errorf("a number ahead of the first: %d", w.c.Number())
	}
	for n := uint64(1); n < 300; n++ {
		var number uint64
		if w, number = w.put(t); number != n || w.c.Number() != n {
			t.Errorf("%d, %d, wanted %d", number, w.c.Number(), n)
		}
		w = fine(t)(w.surely(t))
	}
	refused(t, "a draft", api.ErrOrder)(w.drafts(t))
	refused(t, "no deeds", api.ErrOrder)(w.hold(t))
	refused(t, "deeds", api.ErrOrder)(w.hold(t, put("b", 0)))
	refused(t, "Undo", api.ErrOrder)(w.undo(t))
	refused(t, "a draft ahead of a Put", api.ErrOrder)(fine(t)(fresh().surely(t)).drafts(t))
}

// P27.3: a channel that drafts isn't sure, nor can it be, nor draft again, with deeds and without.
func TestDraft(t *testing.T) {
	w := drafting(t)
	for _, x := range []twin{w, fine(t)(w.hold(t, put("b", 3))), fine(t)(w.undo(t))} {
		if !x.c.Drafts() {
			t.Error("it doesn't draft")
		}
		refused(t, "Sure", api.ErrOrder)(x.surely(t))
		refused(t, "Draft", api.ErrOrder)(x.drafts(t))
		more, number := x.put(t)
		if number != 0 || more.c.Number() != 0 {
			t.Errorf("a number: %d", number)
		}
	}
}

// P27.3: Hold, Held and Undo of a channel that doesn't draft are ErrOrder, ahead of what is wrong with the deeds.
func TestNoDraft(t *testing.T) {
	for _, w := range []twin{fresh(), fine(t)(fresh().surely(t)), fresh().lend(t, Lent{1, "q"})} {
		refused(t, "none", api.ErrOrder)(w.hold(t))
		refused(t, "a Put", api.ErrOrder)(w.hold(t, put("b", 0)))
		refused(t, "a Settle", api.ErrOrder)(w.hold(t, settle("q", 1, 0)))
		refused(t, "another kind", api.ErrOrder)(w.hold(t, deed.Deed{Kind: deed.Wake}))
		refused(t, "what may not be", api.ErrOrder)(w.hold(t, deed.Deed{Kind: 99}))
		refused(t, "Undo", api.ErrOrder)(w.undo(t))
		for _, tick := range ticks {
			if l, code := w.c.Held(tick); len(l) != 0 || code != api.ErrOrder {
				t.Errorf("%+v, %d", l, code)
			}
		}
	}
}

// P27.3: deeds are held, told at a tick, and undone.
func TestHold(t *testing.T) {
	w := drafting(t, Lent{1, "q"}, Lent{2, "q"})
	if l, code := w.c.Held(5); len(l) != 0 || code != api.OK {
		t.Errorf("%+v, %d", l, code)
	}
	w = fine(t)(w.hold(t))
	w = fine(t)(w.hold(t, put("one", 4)))
	w = fine(t)(w.hold(t, settle("q", 2, 1), put("two", 0), settle("none", 77, 2)))
	want := []deed.Deed{put("one", 9), settle("q", 2, 1), put("two", 0), settle("none", 77, 2)}
	for at := range want {
		want[at].Tick = 5
	}
	if l, code := w.c.Held(5); code != api.OK || !sameDeeds(l, want) {
		t.Errorf("%+v, %d", l, code)
	}
	none := fine(t)(w.undo(t))
	if l, code := none.c.Held(5); len(l) != 0 || code != api.OK {
		t.Errorf("%+v, %d", l, code)
	}
	fine(t)(fine(t)(none.undo(t)).hold(t, settle("q", 2, 1)))
}

// P27.3: Hold's errors are layer 26's, of the first deed that can't stand behind those ahead; then none is held.
func TestHoldErrors(t *testing.T) {
	w := fine(t)(drafting(t, Lent{1, "q"}).hold(t, settle("q", 1, 0)))
	for _, x := range []struct {
		what string
		want api.Errno
		l    []deed.Deed
	}{
		{"another kind", api.ErrKind, []deed.Deed{put("b", 0), {Kind: deed.Wake}}},
		{"no exchange", api.ErrEmpty, []deed.Deed{settle("q", 2, 0), {Kind: deed.Put}}},
		{"no How", api.ErrRange, []deed.Deed{settle("q", 2, 3)}},
		{"no queue", api.ErrForm, []deed.Deed{settle("NO", 2, 0)}},
		{"a body too long", api.ErrLong, []deed.Deed{put(strings.Repeat("b", 257), 0)}},
		{"there", api.ErrThere, []deed.Deed{put("b", 0), settle("q", 1, 2)}},
		{"twice", api.ErrThere, []deed.Deed{settle("u", 1, 2), settle("u", 1, 2), {Kind: deed.Wake}}},
	} {
		refused(t, x.what, x.want)(w.hold(t, x.l...))
	}
}

// P27.3: a draft of 16, and one more, one by one and at once; behind Undo there is room for 16 again.
func TestHoldFull(t *testing.T) {
	var l []deed.Deed
	w := drafting(t)
	for n := range 16 {
		one := put("b", uint64(n))
		if n%3 == 0 {
			one = settle("q", uint64(n), 0)
		}
		l = append(l, one)
		w = fine(t)(w.hold(t, one))
	}
	for _, full := range []twin{w, fine(t)(drafting(t).hold(t, l...)), fine(t)(fine(t)(w.undo(t)).hold(t, l...))} {
		refused(t, "one more", api.ErrFull)(full.hold(t, put("b", 0)))
		refused(t, "a Settle more", api.ErrFull)(full.hold(t, settle("q", 1, 0)))
		refused(t, "ErrThere ahead of ErrFull", api.ErrThere)(full.hold(t, settle("q", 3, 0)))
		fine(t)(full.hold(t))
	}
	refused(t, "17 at once", api.ErrFull)(drafting(t).hold(t, append(l, put("b", 0))...))
}
