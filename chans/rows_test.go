package chans

import (
	"math/rand"
	"slices"
	"strconv"
	"testing"

	"stairwell/api"
	"stairwell/deed"
)

// one: one of some, by chance.
func one[T any](r *rand.Rand, l ...T) T { return l[r.Intn(len(l))] }

// spread: a channel with something of all.
func spread(t *testing.T, drafts bool) twin {
	t.Helper()
	w := fresh().lend(t, Lent{1, "q"}, Lent{2, "u"}, Lent{3, "q"})
	for tag := range uint64(3) {
		w = fine(t)(w.take(t, tag, "q"))
	}
	if !drafts {
		w, _ = fine(t)(w.surely(t)).put(t)
		return w
	}
	d := put("b", 3)
	d.Mail.Head = []api.Pair{{Key: "x", Num: 7}, {Key: "y", Kind: 1, Text: "text"}}
	return fine(t)(fine(t)(w.drafts(t)).hold(t, d, settle("q", 1, 0)))
}

// Objects and values: a channel of which others were made stays as it was, and none of these has what another one has.
func TestApart(t *testing.T) {
	for _, drafts := range []bool{false, true} {
		w := spread(t, drafts)
		all := []twin{w}
		for n := range uint64(3) {
			name := strconv.Itoa(int(n))
			all = append(all, w.lend(t, Lent{10 + n, name}), fine(t)(w.leave(t, n)), fine(t)(w.take(t, 10+n, name)))
			all = append(all, w.gone(t, settle([]string{"q", "u", "q"}[n], n+1, 0)), fine(t)(w.credit(t, n+1)))
			if drafts {
				all = append(all, fine(t)(w.hold(t, put(name, n))), fine(t)(w.hold(t, settle("v", n, 0))), fine(t)(w.undo(t)))
			} else {
				more, _ := w.put(t)
				all = append(all, more)
			}
		}
		for _, x := range all[:len(all):len(all)] {
			all = append(all, x.lend(t, Lent{20, "a"}), x.lend(t, Lent{21, "b"}))
		}
		for _, x := range all {
			tells(t, "at the end", x.c, x.p)
		}
	}
}

// Memory: what Takers, Unsettled, Settles and Held tell may be written to, and what was handed in, too, spare room included.
func TestWrittenOver(t *testing.T) {
	w := spread(t, true)
	takers, unsettled := w.c.Takers(), w.c.Unsettled()
	for at := range takers[:cap(takers)] {
		takers[:cap(takers)][at] = Taker{99, "over"}
	}
	for at := range unsettled[:cap(unsettled)] {
		unsettled[:cap(unsettled)][at] = Lent{99, "over"}
	}
	tells(t, "Takers and Unsettled", w.c, w.p)
	l, _ := w.c.Settles(3, 0, true)
	more, _ := w.c.Settles(3, 0, true)
	over(l)
	if !sameDeeds(more, []deed.Deed{settle("u", 2, 0), settle("q", 3, 0)}) {
		t.Errorf("%+v", more)
	}
	held, _ := w.c.Held(5)
	again, _ := w.c.Held(5)
	over(held)
	if !sameDeeds(again, w.p.heldAt(5)) {
		t.Errorf("%+v", again)
	}
	tells(t, "Settles and Held", w.c, w.p)
	in := append(make([]deed.Deed, 0, 4), put("c", 1), settle("q", 3, 0))
	in[0].Mail.Head = append(make([]api.Pair, 0, 3), api.Pair{Key: "z"})
	as := func() bool {
		return len(in) == 2 && in[0].Mail.Body == "c" && in[0].Mail.Due == 1 && in[0].Mail.Head[0].Key == "z" && in[1].ID == 3 && in[:4][2].Kind == 0
	}
	kept := fine(t)(w.hold(t, in...))
	left := w.gone(t, in...)
	if !as() {
		t.Errorf("%+v", in[:4])
	}
	over(in)
	tells(t, "handed to Hold", kept.c, kept.p)
	tells(t, "handed to Gone", left.c, left.p)
}

// step: one call by chance.
func step(t *testing.T, r *rand.Rand, w twin, next uint64) (twin, api.Errno) {
	t.Helper()
	x := Lent{uint64(r.Intn(6)), one(r, "q", "u")}
	if r.Intn(2) == 0 {
		x.ID = next
	}
	of := one(r, append(w.c.Unsettled(), x)...)
	switch r.Intn(15) {
	case 0:
		return w.credit(t, one[uint64](r, 0, 1, 2, 3, 8, 16, 17, most))
	case 1, 2:
		return w.take(t, one[uint64](r, 0, 1, 2, 3, 4, 254, 255, 256), x.Queue)
	case 3:
		return w.leave(t, one[uint64](r, 0, 1, 2, 3, 4, 254, 255, 256))
	case 4, 5, 6:
		return w.lend(t, x), api.OK
	case 7, 8:
		return w.gone(t, settle(of.Queue, of.ID, 0), one(r, settle(x.Queue, x.ID, 1), put("b", 0))), api.OK
	case 9:
		if r.Intn(6) == 0 {
			return w.surely(t)
		}
		more, _ := w.put(t)
		return more, api.OK
	case 10:
		if r.Intn(4) == 0 {
			return w.drafts(t)
		}
		return w.undo(t)
	case 11:
		return w.hold(t, put(strconv.Itoa(r.Intn(9)), uint64(r.Intn(3))))
	case 12:
		return w.hold(t, settle(of.Queue, of.ID, uint8(r.Intn(3))), one(r, settle(x.Queue, x.ID, 3), put("c", most)))
	}
	l, _ := w.c.Settles(of.ID, 0, r.Intn(2) == 0)
	if w.c.Drafts() {
		return w.hold(t, l...)
	}
	return w.gone(t, l...), api.OK
}

// P27.1 to P27.4: long rows of calls, held against the chapter's words; all that were left behind are as they were at the end.
func TestRows(t *testing.T) {
	codes := map[api.Errno]int{}
	for seed := range int64(60) {
		r := rand.New(rand.NewSource(seed))
		w := fresh()
		all := []twin{w}
		for n := range uint64(80) {
			from := w
			if r.Intn(8) == 0 {
				from = one(r, all...)
			}
			more, code := step(t, r, from, 100+n)
			codes[code]++
			all, w = append(all, more), more
		}
		for _, x := range all {
			tells(t, "at the end", x.c, x.p)
		}
	}
	for _, code := range []api.Errno{api.OK, api.ErrRange, api.ErrThere, api.ErrFull, api.ErrNone, api.ErrOrder} {
		if codes[code] == 0 {
			t.Errorf("no row comes to the error %d", code)
		}
	}
}

// settled is what was settled in a row, and what was told to be.
type settled struct {
	c       Chan
	lent    []Lent
	done    []deed.Deed
	waiting []deed.Deed
}

// ask: some are settled, or held to be, or committed, or undone.
func (x *settled) ask(t *testing.T, r *rand.Rand) {
	t.Helper()
	id := uint64(1 + r.Intn(len(x.lent)+1))
	l, code := x.c.Settles(id, uint64(r.Intn(3)), r.Intn(3) == 0)
	if code != api.OK {
		l = nil
	}
	for _, d := range l {
		same := func(y deed.Deed) bool { return y.ID == d.ID }
		if slices.ContainsFunc(x.done, same) || slices.ContainsFunc(x.waiting, same) {
			t.Fatalf("%d is settled again", d.ID)
		}
	}
	if !x.c.Drafts() {
		x.c, x.done = x.c.Gone(l...), append(x.done, l...)
		return
	}
	if held, code := x.c.Hold(l...); code == api.OK {
		x.c, x.waiting = held, append(x.waiting, l...)
	}
	switch r.Intn(8) {
	case 0:
		held, _ := x.c.Held(9)
		x.c, x.done = x.c.Gone(held...), append(x.done, held...)
		fallthrough
	case 1:
		x.c, _ = x.c.Undo()
		x.waiting = nil
	}
}

// P27.4: over long rows what was settled is never told to be settled again, nor unsettled; all else that was lent is unsettled.
func TestOnce(t *testing.T) {
	for seed := range int64(300) {
		r := rand.New(rand.NewSource(seed))
		x := &settled{c: New()}
		if seed%2 == 0 {
			x.c, _ = x.c.Draft()
		}
		for n := range uint64(150) {
			if r.Intn(2) == 0 {
				one := Lent{uint64(len(x.lent) + 1), one(r, "q", "u", "v")}
				x.c, x.lent = x.c.Lend(one), append(x.lent, one)
			}
			x.ask(t, r)
			var left []Lent
			for _, y := range x.lent {
				if !slices.ContainsFunc(x.done, func(d deed.Deed) bool { return d.ID == y.ID && d.Name == y.Queue }) {
					left = append(left, y)
				}
			}
			if !slices.Equal(x.c.Unsettled(), left) {
				t.Fatalf("%d, %d: %v, wanted %v", seed, n, x.c.Unsettled(), left)
			}
		}
		if len(x.done) < 10 {
			t.Errorf("%d: %d settled", seed, len(x.done))
		}
	}
}
