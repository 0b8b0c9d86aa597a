package stock

import (
	"math"
	"slices"
	"testing"

	"stairwell/api"
	"stairwell/line"
	"stairwell/mail"
	"stairwell/rise"
)

// plenty is room for whatever is put here.
const plenty = 1 << 30

// P21.2: the document's example.
func TestExample(t *testing.T) {
	s, code := New(7, 1000).Make(Queue{Name: "q", Most: 1})
	if code != api.OK {
		t.Fatalf("%d", code)
	}
	s, id, gone, code := s.Put("q", api.Mail{Shop: "a"})
	if id != 7 || code != api.OK || !alike(gone, api.Mail{}) || s.Next() != 8 || s.Size() != 25 || s.Room() != 975 {
		t.Errorf("%d, %+v, %d, next %d, %d bytes, room for %d", id, gone, code, s.Next(), s.Size(), s.Room())
	}
}

// P21.1: new ones, of any base, and of any number of bytes; the zero one.
func TestNew(t *testing.T) {
	for _, base := range []uint64{0, 1, 7, 255, 256, 1 << 32, 1 << 63, math.MaxUint64 - 1, math.MaxUint64} {
		for _, bytes := range []int{math.MinInt, -25, -1, 0, 1, 24, 25, 26, 1000, math.MaxInt32, math.MaxInt} {
			w := begun(base, bytes)
			tells(t, "new", w.s, w.p)
			if got := w.s.Bytes(); got != numberOf(base)+"\x00\x00" {
				t.Errorf("%d: %x", base, got)
			}
			if w.s.Room() != max(bytes, 0) || w.s.Size() != 0 {
				t.Errorf("%d: room for %d, %d bytes", bytes, w.s.Room(), w.s.Size())
			}
		}
	}
	zero := twin{p: plain{}}
	tells(t, "zero", zero.s, zero.p)
	if !Same(Stock{}, New(0, 0)) || !Same(New(0, -1), Stock{}) || Same(Stock{}, New(0, 1)) || Same(Stock{}, New(1, 0)) {
		t.Error("the zero one")
	}
	zero = zero.make(t, named("q", 1), api.OK)
	zero.put(t, "q", sized(25), api.ErrEnd)
	zero.raise(t, 0, sized(25), api.ErrFull)
}

// P21.1: queues that may be, at all edges; in the order in which they came.
func TestMake(t *testing.T) {
	w := begun(1, plenty)
	for _, q := range []Queue{
		{Name: "z", Most: 1},
		{Name: "a", Most: 64, Life: math.MaxUint64, Dead: "a"},
		{Name: letters("-", 16), Most: 63, Life: 1, Dead: letters("_", 16)},
		{Name: "0", Most: 2, Dead: "nowhere"},
		{Name: "a-b_0", Most: 32, Life: 1 << 63},
	} {
		w = w.make(t, q, api.OK)
		if got, there := w.s.Queue(q.Name); got != q || !there {
			t.Errorf("%+v, %v, wanted %+v", got, there, q)
		}
	}
	names := ""
	for _, q := range w.s.Queues() {
		names += q.Name + " "
	}
	if want := "z a ---------------- 0 a-b_0 "; names != want {
		t.Errorf("%s, wanted %s", names, want)
	}
}

// P21.1: the very same queue twice, its messages staying; another one of that name; the 8th and the 9th.
func TestMakeThere(t *testing.T) {
	w := begun(1, plenty)
	for at, q := range queues(8) {
		w = w.make(t, q, api.OK)
		w = w.put(t, q.Name, numbered(at), api.OK)
		for _, was := range queues(at + 1) {
			same := w.make(t, was, api.OK)
			if !Same(same.s, w.s) || same.s.Size() != w.s.Size() {
				t.Errorf("%+v made twice", was)
			}
			for _, other := range []Queue{
				{was.Name, was.Most%64 + 1, was.Life, was.Dead},
				{was.Name, was.Most, was.Life + 1, was.Dead},
				{was.Name, was.Most, was.Life, was.Dead + "x"},
				{was.Name, was.Most, was.Life, "other"},
			} {
				w.make(t, other, api.ErrThere)
			}
			w.make(t, Queue{was.Name, 65, was.Life, "*"}, api.ErrRange)
			w.make(t, Queue{was.Name, was.Most, was.Life, "*"}, api.ErrForm)
		}
	}
	w.make(t, named("q8", 1), api.ErrFull)
	w.make(t, named("a", 64), api.ErrFull)
	w = w.drop(t, "q3", api.OK)
	w = w.make(t, named("q8", 1), api.OK)
	w.make(t, named("q3", 1), api.ErrFull)
}

// P21.1: queues that may not be, the first of what is wrong being told, whatever is there.
func TestMakeWrong(t *testing.T) {
	long := letters("q", 17)
	for _, count := range []int{0, 1, 7, 8} {
		w := begun(1, plenty)
		for _, q := range queues(count) {
			w = w.make(t, q, api.OK)
		}
		for _, c := range []struct {
			q    Queue
			want api.Errno
		}{
			{Queue{}, api.ErrEmpty},
			{Queue{"", 65, 0, "*"}, api.ErrEmpty},
			{Queue{long, 1, 0, ""}, api.ErrLong},
			{Queue{letters("Q", 17), 0, 0, ""}, api.ErrLong},
			{Queue{"Q", 1, 0, ""}, api.ErrForm},
			{Queue{"a.b", 0, 0, long}, api.ErrForm},
			{Queue{"q\x00", 1, 0, ""}, api.ErrForm},
			{Queue{"q", 0, 0, ""}, api.ErrRange},
			{Queue{"q", 65, 0, ""}, api.ErrRange},
			{Queue{"q", 256 + 1, 0, ""}, api.ErrRange},
			{Queue{"q", 1 << 32, 0, ""}, api.ErrRange},
			{Queue{"q", 1 << 63, 0, ""}, api.ErrRange},
			{Queue{"q", math.MaxUint64, 0, "*"}, api.ErrRange},
			{Queue{"q", 0, 0, long}, api.ErrRange},
			{Queue{"q", 1, 0, long}, api.ErrLong},
			{Queue{"q", 1, 0, "*"}, api.ErrForm},
			{Queue{"q", 64, 9, "a.b"}, api.ErrForm},
			{Queue{"q0", 0, 0, ""}, api.ErrRange},
			{Queue{"q0", 1, 0, "A"}, api.ErrForm},
		} {
			w.make(t, c.q, c.want)
		}
	}
}

// P21.1: what is dropped is gone, with its messages and their bytes; made anew it stands behind all others, without any.
func TestDrop(t *testing.T) {
	w := begun(1, plenty)
	for _, q := range queues(8) {
		w = w.make(t, q, api.OK)
		w = w.fill(t, q.Name, 1, int(q.Most))
	}
	w = w.raise(t, 4, numbered(9), api.OK)
	for _, name := range []string{"q0", "q3", "q7"} {
		less := w.drop(t, name, api.OK)
		less.drop(t, name, api.ErrNone)
		q, _ := w.s.Queue(name)
		anew := less.make(t, q, api.OK)
		if l := anew.s.Queues(); l[7] != q || anew.s.Line(name).Len() != 0 {
			t.Errorf("%+v", l)
		}
		if want := w.s.Room() + w.s.Line(name).Size(); anew.s.Room() != want {
			t.Errorf("room for %d, wanted %d", anew.s.Room(), want)
		}
		anew = anew.put(t, name, numbered(77), api.OK)
		if m, _ := anew.s.Line(name).First(); m.ID != w.s.Next() {
			t.Errorf("%d, wanted %d", m.ID, w.s.Next())
		}
	}
	for _, q := range queues(8) {
		w = w.drop(t, q.Name, api.OK)
	}
	if len(w.s.Queues()) > 0 || w.s.Size() != len(bytesOf(numbered(9))) {
		t.Errorf("%+v, %d bytes", w.s.Queues(), w.s.Size())
	}
}

// P21.1, P21.2: each call of a queue that isn't there, whatever else is asked of it.
func TestNoQueue(t *testing.T) {
	empty := begun(1, plenty)
	some := begun(1, plenty).make(t, named("q", 1), api.OK).put(t, "q", numbered(3), api.OK)
	dropped := some.make(t, named("none", 1), api.OK).put(t, "none", numbered(3), api.OK).drop(t, "none", api.OK)
	for _, w := range []twin{empty, some, dropped, begun(0, 0)} {
		for _, name := range []string{"", "none", "Q", "qq", letters("q", 17), letters("q", 70000)} {
			w.drop(t, name, api.ErrNone)
			w.put(t, name, numbered(1), api.ErrNone)
			w.put(t, name, api.Mail{}, api.ErrNone)
			w.put(t, name, greatest(), api.ErrNone)
			w.lend(t, name, false)
			for _, id := range []uint64{0, 1, 2, math.MaxUint64} {
				w.back(t, name, id, api.ErrNone)
				w.remove(t, name, id, api.ErrNone)
			}
			if q, there := w.s.Queue(name); q != (Queue{}) || there {
				t.Errorf("%q: %+v, %v", name, q, there)
			}
			if l := w.s.Line(name); !line.Same(l, line.Line{}) {
				t.Errorf("%q: %+v", name, l.All())
			}
		}
	}
}

// P21.2: a message has the next ID, whatever it had, and stands behind all others, whichever queue those before it went to.
func TestPut(t *testing.T) {
	w := begun(100, plenty).make(t, named("q", 64), api.OK).make(t, named("r", 64), api.OK)
	for at := range 20 {
		name := []string{"q", "r", "q"}[at%3]
		m := numbered(at)
		m.ID = []uint64{0, 1, 100, uint64(100 + at), math.MaxUint64}[at%5]
		_, id, gone, code := w.s.Put(name, m)
		if id != uint64(100+at) || !alike(gone, api.Mail{}) || code != api.OK {
			t.Errorf("%d, %+v, %d", id, gone, code)
		}
		w = w.put(t, name, m, api.OK)
		all := w.s.Line(name).All()
		last := all[len(all)-1]
		m.ID = id
		if !same(last, line.Item{Mail: m}) || w.s.Next() != id+1 {
			t.Errorf("%+v, next %d", last, w.s.Next())
		}
	}
	w.put(t, "q", greatest(), api.OK)
	w.put(t, "r", api.Mail{Shop: "s", Head: []api.Pair{}}, api.OK)
}

// P21.2: the last ID, and none behind it.
func TestPutEnd(t *testing.T) {
	for _, base := range []uint64{math.MaxUint64 - 2, math.MaxUint64 - 1, math.MaxUint64} {
		w := begun(base, plenty).make(t, named("q", 2), api.OK).make(t, named("r", 64), api.OK)
		for id := base; id != 0; id++ {
			name := []string{"q", "r"}[id%2]
			_, told, _, _ := w.s.Put(name, numbered(1))
			if told != id || w.s.Next() != id {
				t.Errorf("%d, next %d, wanted %d", told, w.s.Next(), id)
			}
			w = w.put(t, name, numbered(1), api.OK)
		}
		if w.s.Next() != 0 {
			t.Errorf("next %d", w.s.Next())
		}
		ended(t, w)
		w = w.lend(t, "r", true)
		ended(t, w.remove(t, "r", math.MaxUint64, api.OK))
		ended(t, w.drop(t, "r", api.OK).make(t, named("r", 1), api.OK))
		w.raise(t, 3, numbered(4), api.OK)
	}
	ended(t, begun(0, plenty).make(t, named("q", 1), api.OK).make(t, named("r", 1), api.OK))
	ended(t, begun(0, 0).make(t, named("q", 1), api.OK).make(t, named("r", 1), api.OK))
}

// ended: there are no more IDs; that is told behind what is wrong with a message, and ahead of whether it has room.
func ended(t *testing.T, w twin) {
	t.Helper()
	for _, name := range []string{"q", "r"} {
		w.put(t, name, numbered(1), api.ErrEnd)
		w.put(t, name, greatest(), api.ErrEnd)
		w.put(t, name, api.Mail{}, api.ErrEmpty)
		w.put(t, name, api.Mail{Shop: "s", Hops: 5}, api.ErrRange)
	}
	w.put(t, "none", numbered(1), api.ErrNone)
}

// wrongs: messages that may not be, and what is said of them.
func wrongs() map[api.Errno]api.Mail {
	return map[api.Errno]api.Mail{
		api.ErrEmpty: {},
		api.ErrForm:  {Shop: "s", Key: "a..b"},
		api.ErrMany:  {Shop: "s", Head: keyed(9)},
		api.ErrThere: {Shop: "s", Head: append(keyed(2), keyed(1)...)},
		api.ErrKind:  {Shop: "s", Head: []api.Pair{{Key: "k", Kind: 3}}},
		api.ErrLong:  {Shop: "s", Body: letters("b", 257)},
		api.ErrRange: {Shop: "s", Hops: 5},
	}
}

// P21.2, P21.3: messages that may not be are told as such, ahead of whether there is an ID, or room, for them.
func TestWrongMail(t *testing.T) {
	room := begun(1, plenty).make(t, named("q", 2), api.OK)
	tight := begun(1, 25).make(t, named("q", 1), api.OK).put(t, "q", sized(25), api.OK)
	lent := tight.lend(t, "q", true)
	none := begun(0, 0).make(t, named("q", 1), api.OK)
	for _, w := range []twin{room, tight, lent, none} {
		for code, m := range wrongs() {
			w.put(t, "q", m, code)
			w.put(t, "none", m, api.ErrNone)
			for _, place := range []int{0, 1, 15} {
				w.raise(t, place, m, code)
			}
			for _, place := range []int{-1, 16, math.MinInt, math.MaxInt} {
				w.raise(t, place, m, api.ErrRange)
			}
		}
		w.put(t, "q", api.Mail{Shop: "S", Key: "*", Head: keyed(9), Body: letters("b", 257), Hops: 5}, api.ErrForm)
		w.raise(t, 0, api.Mail{Shop: "s", Head: keyed(9), Body: letters("b", 257), Hops: 5}, api.ErrMany)
	}
}

// P21.2: a message that fills the room to the byte, and one of a byte more, whatever else there is.
func TestPutRoom(t *testing.T) {
	for _, bytes := range []int{0, 1, 24, 25, 26, 49, 50, 51, 100, 345} {
		w := begun(1, bytes).make(t, named("q", 64), api.OK).make(t, named("r", 64), api.OK)
		for size := 25; size <= 345; size++ {
			s, id, gone, code := w.s.Put("q", sized(size))
			switch {
			case size <= bytes && (id != 1 || code != api.OK || s.Room() != bytes-size):
				t.Errorf("%d of %d: %d, %d, room for %d", size, bytes, id, code, s.Room())
			case size > bytes && (id != 0 || code != api.ErrFull || !Same(s, w.s) || !alike(gone, api.Mail{})):
				t.Errorf("%d of %d: %d, %d, %+v", size, bytes, id, code, gone)
			}
		}
	}
	for _, size := range []int{25, 60, 345} {
		for _, ahead := range []int{25, 31, 200} {
			w := begun(1, 2*ahead+ahead+size).make(t, named("q", 64), api.OK).make(t, named("r", 64), api.OK)
			w = w.put(t, "q", sized(ahead), api.OK).put(t, "r", sized(ahead), api.OK).raise(t, 7, sized(ahead), api.OK)
			for _, name := range []string{"q", "r"} {
				w.put(t, name, sized(size+min(1, 345-size)), []api.Errno{api.ErrFull, api.OK}[size/345])
				full := w.put(t, name, sized(size), api.OK)
				full.put(t, name, sized(25), api.ErrFull)
				full.raise(t, 7, sized(25), api.ErrFull)
				if full.s.Room() != 0 {
					t.Errorf("room for %d", full.s.Room())
				}
				full.lend(t, "q", true).put(t, "r", sized(25), api.ErrFull) // what is lent has its bytes, too
				full.remove(t, "q", 1, api.OK).put(t, "r", sized(ahead), api.OK)
				full.drop(t, "r", api.OK).put(t, "q", sized(ahead), api.OK)
			}
		}
	}
}

// P21.2: of a queue that has Most the first ready one is pushed out; those that are lent stay.
func TestPushOut(t *testing.T) {
	for _, most := range []uint64{1, 2, 3, 63, 64} {
		w := begun(1, plenty).make(t, named("other", 1), api.OK).make(t, named("q", most), api.OK).put(t, "other", numbered(5), api.OK)
		w = w.fill(t, "q", 1, int(most))
		for lent := range int(most) {
			want := w.s.Line("q").All()[lent]
			more, id, gone, code := w.s.Put("q", numbered(90))
			if code != api.OK || !alike(gone, want.Mail) || gone.ID != uint64(lent+2) || id != most+2 {
				t.Fatalf("%d of %d lent: %d, %+v, %d", lent, most, id, gone, code)
			}
			if more.Line("q").Len() != int(most) || more.Line("q").Ready() != int(most)-lent || more.Line("other").Len() != 1 {
				t.Fatalf("%d of %d lent: %+v", lent, most, more.Line("q").All())
			}
			if most <= 3 {
				w.put(t, "q", numbered(90), api.OK).put(t, "q", numbered(91), api.OK).put(t, "q", numbered(92), api.OK)
			}
			w.s, _, _ = w.s.Lend("q")
			w.p, _, _ = w.p.lend("q")
		}
		w.put(t, "q", numbered(90), api.ErrFull)
		w.put(t, "q", sized(25), api.ErrFull)
		w.put(t, "other", numbered(90), api.OK)
		w.back(t, "q", most+1, api.OK).put(t, "q", numbered(90), api.OK)
		w.remove(t, "q", 2, api.OK).put(t, "q", numbered(90), api.OK)
		w.wake(t).put(t, "q", numbered(90), api.OK)
	}
}

// P21.2: one that came back is pushed out as any other ready one, as it stands first.
func TestPushOutMarked(t *testing.T) {
	w := begun(1, plenty).make(t, named("q", 3), api.OK).fill(t, "q", 1, 3)
	w = w.lend(t, "q", true).lend(t, "q", true).back(t, "q", 1, api.OK)
	_, _, gone, _ := w.s.Put("q", numbered(9))
	if gone.ID != 1 {
		t.Errorf("%+v", gone)
	}
	w = w.put(t, "q", numbered(9), api.OK)
	if _, _, gone, _ = w.s.Put("q", numbered(9)); gone.ID != 3 { // 2 is lent
		t.Errorf("%+v", gone)
	}
}

// P21.2: what is pushed out doesn't count: it makes room, or it isn't enough, and then nothing is pushed out.
func TestPushOutRoom(t *testing.T) {
	w := begun(1, 200).make(t, named("q", 1), api.OK).make(t, named("r", 64), api.OK)
	w = w.put(t, "q", sized(80), api.OK).put(t, "r", sized(50), api.OK).raise(t, 2, sized(70), api.OK)
	if w.s.Room() != 0 {
		t.Fatalf("room for %d", w.s.Room())
	}
	for size := 25; size <= 90; size++ {
		want := api.OK
		if size > 80 {
			want = api.ErrFull
		}
		more := w.put(t, "q", sized(size), want)
		if want == api.OK && more.s.Room() != 80-size {
			t.Errorf("%d: room for %d", size, more.s.Room())
		}
		w.put(t, "r", sized(size), api.ErrFull) // there nothing is pushed out
	}
	lent := w.lend(t, "q", true)
	lent.put(t, "q", sized(25), api.ErrFull)
	less := w.remove(t, "r", 2, api.OK)
	less.put(t, "q", sized(130), api.OK)
	less.put(t, "q", sized(131), api.ErrFull)
}

// P21.2: Lend, Back and Remove of one of several queues: as its line's, the others staying as they are.
func TestLend(t *testing.T) {
	w := begun(1, plenty)
	for _, q := range queues(4) {
		w = w.make(t, q, api.OK)
	}
	for at := range 10 { // q0 has one, q1 two, q2 three, q3 four
		w = w.put(t, []string{"q0", "q1", "q1", "q2", "q2", "q2", "q3", "q3", "q3", "q3"}[at], numbered(at), api.OK)
	}
	for _, name := range []string{"q0", "q1", "q2", "q3"} {
		w.back(t, name, w.s.Line(name).All()[0].Mail.ID, api.ErrOrder)
		for at, one := range w.s.Line(name).All() {
			id := one.Mail.ID
			less := w.remove(t, name, id, api.OK)
			less.remove(t, name, id, api.ErrNone)
			less.back(t, name, id, api.ErrNone)
			lent := w
			for range at + 1 {
				lent = lent.lend(t, name, true)
			}
			lent.remove(t, name, id, api.OK)
			back := lent.back(t, name, id, api.OK)
			back.back(t, name, id, api.ErrOrder)
			if _, again, _ := back.s.Lend(name); again.Mail.ID != id || !again.Again || !again.Lent {
				t.Errorf("%+v", again)
			}
			for _, other := range []string{"q0", "q1", "q2", "q3"} {
				if other != name { // an ID is one of its queue's alone
					lent.back(t, other, id, api.ErrNone)
					lent.remove(t, other, id, api.ErrNone)
				}
			}
		}
		none := w
		for range w.s.Line(name).Len() {
			none = none.lend(t, name, true)
		}
		none.lend(t, name, false)
	}
	w.back(t, "q0", 99, api.ErrNone)
	w.remove(t, "q0", 0, api.ErrNone)
	for _, id := range []uint64{7, 8, 9, 10} {
		w = w.remove(t, "q3", id, api.OK)
	}
	w.lend(t, "q3", false)
}

// P21.3: places from 0 to 15, and others; each has a rise of its own.
func TestRaise(t *testing.T) {
	w := begun(1, plenty).make(t, named("q", 1), api.OK)
	for _, place := range []int{-1, 16, 17, -16, 31, 255, 256, 1 << 32, math.MinInt, math.MaxInt} {
		w.raise(t, place, numbered(1), api.ErrRange)
		w.raise(t, place, greatest(), api.ErrRange)
	}
	for _, place := range []int{15, 0, 7, 1, 14, 15} {
		w = w.raise(t, place, numbered(place+20), api.OK)
		if number, m, there := w.s.Rise(place).After(0); number != 1 || !there || !alike(m, numbered(place+20)) {
			t.Errorf("to %d: %d, %+v, %v", place, number, m, there)
		}
	}
	if w.s.Rise(15).Total() != 2 || w.s.Rise(2).Total() != 0 || w.s.Next() != 1 {
		t.Errorf("%d, %d, next %d", w.s.Rise(15).Total(), w.s.Rise(2).Total(), w.s.Next())
	}
	for place := range 16 {
		w = w.raise(t, place, greatest(), api.OK)
	}
}

// P21.3: of more than 16 the first one is pushed out of a rise; it has no bytes then, and makes room for the next one.
func TestRaisePushOut(t *testing.T) {
	w := begun(1, 100+15*30+25).make(t, named("q", 1), api.OK).raise(t, 3, sized(100), api.OK)
	for range 15 {
		w = w.raise(t, 3, sized(30), api.OK)
	}
	w.raise(t, 4, sized(26), api.ErrFull)
	w.raise(t, 3, sized(126), api.ErrFull)
	if more := w.raise(t, 3, sized(125), api.OK); more.s.Room() != 0 {
		t.Errorf("room for %d", more.s.Room())
	}
	w = w.raise(t, 4, sized(25), api.OK)
	w.raise(t, 4, sized(25), api.ErrFull)
	w.put(t, "q", sized(25), api.ErrFull)
	w = w.raise(t, 3, sized(40), api.OK)
	if w.s.Room() != 60 || w.s.Rise(3).Total() != 17 {
		t.Errorf("room for %d, %d in all", w.s.Room(), w.s.Rise(3).Total())
	}
	w = w.put(t, "q", sized(60), api.OK)
	w = w.raise(t, 3, sized(30), api.OK)
	w.raise(t, 3, sized(31), api.ErrFull)
	w.raise(t, 3, sized(25), api.OK)
}

// P21.3: a message that fills the room to the byte, and one of a byte more.
func TestRaiseRoom(t *testing.T) {
	for _, bytes := range []int{0, 24, 25, 26, 100} {
		w := begun(0, bytes).make(t, named("q", 1), api.OK)
		for _, size := range []int{25, 26, 99, 100, 101, 345} {
			want := api.OK
			if size > bytes {
				want = api.ErrFull
			}
			w.raise(t, 0, sized(size), want)
		}
	}
}

// P21.3: behind the last number of a rise nothing is put to it; that is told ahead of whether it has room.
func TestRaiseEnd(t *testing.T) {
	for _, bytes := range []int{16 * 25, plenty} {
		p := plain{next: 1, most: bytes}
		p.rises[5] = climb{math.MaxUint64, slices.Repeat([]api.Mail{sized(25)}, 16)}
		s, code := Of(p.bytes(), bytes)
		if code != api.OK {
			t.Fatalf("%d", code)
		}
		w := twin{s: s, p: p}
		w.raise(t, 5, sized(25), api.ErrEnd)
		w.raise(t, 5, greatest(), api.ErrEnd)
		w.raise(t, 5, api.Mail{}, api.ErrEmpty)
		p.rises[5].total--
		s, _ = Of(p.bytes(), bytes)
		w = twin{s: s, p: p}
		w = w.raise(t, 5, sized(25), api.OK)
		w.raise(t, 5, sized(25), api.ErrEnd)
	}
}

// P21.3: of several queues the first one's first that is ready, and whose time is over.
func TestLate(t *testing.T) {
	w := begun(1, plenty).make(t, named("z", 64), api.OK).make(t, named("a", 64), api.OK).make(t, named("m", 64), api.OK)
	due := func(name string, tick uint64) {
		w = w.put(t, name, api.Mail{Shop: "s", Head: keyed(2), Due: tick}, api.OK)
	}
	late := func(tick uint64, name string, id uint64) {
		t.Helper()
		got, m, is := w.s.Late(tick)
		if got != name || m.ID != id || is != (id > 0) {
			t.Errorf("at %d: %q, %d, %v, wanted %q, %d", tick, got, m.ID, is, name, id)
		}
	}
	late(math.MaxUint64, "", 0)
	due("m", 3)              // 1
	due("a", 0)              // 2: never
	due("a", 5)              // 3
	due("a", 4)              // 4
	due("z", 8)              // 5
	due("z", math.MaxUint64) // 6
	late(0, "", 0)
	late(2, "", 0)
	late(3, "m", 1)
	late(4, "a", 4)
	late(5, "a", 3)
	late(7, "a", 3)
	late(8, "z", 5)
	late(math.MaxUint64, "z", 5)
	w = w.lend(t, "z", true)
	late(8, "a", 3)
	late(math.MaxUint64-1, "a", 3)
	late(math.MaxUint64, "z", 6)
	w = w.lend(t, "a", true).lend(t, "a", true)
	late(8, "a", 4)
	w = w.remove(t, "a", 4, api.OK)
	late(8, "m", 1)
	w = w.back(t, "a", 3, api.OK)
	late(8, "a", 3)
	w = w.drop(t, "a", api.OK)
	late(8, "m", 1)
	w = w.wake(t)
	late(8, "z", 5)
}

// P21.3: all lines are woken.
func TestWake(t *testing.T) {
	w := begun(1, plenty)
	w.wake(t)
	for _, q := range queues(8) {
		w = w.make(t, q, api.OK)
		w = w.fill(t, q.Name, 1, int(q.Most))
		for range (q.Most + 1) / 2 {
			w = w.lend(t, q.Name, true)
		}
	}
	w = w.raise(t, 3, numbered(3), api.OK)
	woken := w.wake(t)
	for _, q := range queues(8) {
		if l := woken.s.Line(q.Name); l.Ready() != l.Len() || !l.All()[0].Again || l.All()[l.Len()-1].Again != (q.Most == 1) {
			t.Errorf("%+v", l.All())
		}
	}
	if twice := woken.wake(t); !Same(twice.s, woken.s) || Same(woken.s, w.s) {
		t.Error("woken twice")
	}
}

// P21.1, P21.3: a stock of which each queue, and each rise, is full, of messages that have at each edge the most.
func TestFullest(t *testing.T) {
	p := plain{next: math.MaxUint64, most: plenty}
	for at := range 8 {
		x := pile{queue: Queue{letters("q", 9+at), 64, math.MaxUint64, letters("d", 16)}}
		for n := range 64 {
			m := greatest()
			m.ID = uint64(at + 8*n)
			x.items = append(x.items, line.Item{Mail: m, Lent: n%3 == 1, Again: n%2 == 1})
		}
		p.piles = append(p.piles, x)
	}
	for place := range 16 {
		p.rises[place] = climb{math.MaxUint64 - uint64(place), slices.Repeat([]api.Mail{greatest()}, 16)}
	}
	s, code := Of(p.bytes(), plenty)
	if code != api.OK || s.Size() != 768*mail.Size(greatest()) {
		t.Fatalf("%d, %d bytes", code, s.Size())
	}
	w := twin{s: s, p: p}
	w = w.put(t, letters("q", 9), greatest(), api.OK)
	w.put(t, letters("q", 9), greatest(), api.ErrEnd)
	w = w.raise(t, 1, greatest(), api.OK)
	w.raise(t, 1, greatest(), api.ErrEnd)
	w.raise(t, 0, greatest(), api.ErrEnd)
	w.make(t, named("q", 1), api.ErrFull)
}

// variants: stocks of which each is unlike each other one.
func variants(t *testing.T) []twin {
	base := begun(50, 2000).make(t, Queue{"q", 3, 4, "d"}, api.OK).make(t, named("r", 2), api.OK)
	one := base.put(t, "q", numbered(6), api.OK)
	two := one.put(t, "q", numbered(7), api.OK).put(t, "r", numbered(8), api.OK)
	raised := two.raise(t, 0, numbered(9), api.OK)
	head := numbered(6)
	head.Head = keyed(1)
	return []twin{
		{}, begun(0, 1), begun(1, 0), begun(50, 2000), begun(51, 2000), begun(50, 2001),
		begun(50, 2000).make(t, named("q", 1), api.OK), begun(50, 2000).make(t, named("r", 1), api.OK),
		begun(50, 2000).make(t, named("q", 2), api.OK), begun(50, 2000).make(t, Queue{"q", 1, 1, ""}, api.OK),
		begun(50, 2000).make(t, Queue{"q", 1, 0, "d"}, api.OK),
		base, base.drop(t, "q", api.OK), base.drop(t, "r", api.OK), base.drop(t, "q", api.OK).make(t, Queue{"q", 3, 4, "d"}, api.OK),
		one, base.put(t, "r", numbered(6), api.OK), base.put(t, "q", numbered(7), api.OK), base.put(t, "q", head, api.OK),
		one.lend(t, "q", true), one.lend(t, "q", true).back(t, "q", 50, api.OK), one.lend(t, "q", true).wake(t).lend(t, "q", true),
		one.remove(t, "q", 50, api.OK), one.remove(t, "q", 50, api.OK).put(t, "q", numbered(6), api.OK),
		two, two.lend(t, "q", true), two.lend(t, "r", true),
		raised, raised.raise(t, 0, numbered(9), api.OK), raised.raise(t, 15, numbered(9), api.OK), two.raise(t, 1, numbered(9), api.OK),
		two.raise(t, 15, numbered(9), api.OK), two.raise(t, 0, numbered(10), api.OK), two.raise(t, 0, sized(25), api.OK),
	}
}

// P21.3: two are the same, if they are so in all.
func TestSame(t *testing.T) {
	l := variants(t)
	for at, a := range l {
		for other, b := range l {
			if got := Same(a.s, b.s); got != (at == other) {
				t.Errorf("%d and %d: %v", at, other, got)
			}
			anew, code := Of(b.s.Bytes(), b.p.most)
			if got := Same(a.s, anew); got != (at == other) || code != api.OK {
				t.Errorf("%d and %d read: %v, %d", at, other, got, code)
			}
		}
	}
	a := begun(1, 2000).make(t, named("q", 3), api.OK).put(t, "q", api.Mail{Shop: "s"}, api.OK)
	b := begun(1, 2000).make(t, named("r", 3), api.OK).make(t, named("q", 3), api.OK).drop(t, "r", api.OK).put(t, "q", api.Mail{ID: 9, Shop: "s", Head: []api.Pair{}}, api.OK)
	if !Same(a.s, b.s) {
		t.Error("come to in another way")
	}
}

// Memory: of one, to which nothing but queues came, others are made: none has the others' queues, however much room there is.
func TestStayQueues(t *testing.T) {
	w := begun(1, plenty)
	for _, q := range queues(8) {
		one, other := w.make(t, named("one", 1), api.OK), w.make(t, named("other", 2), api.OK)
		tells(t, "one", one.s, one.p)
		tells(t, "other", other.s, other.p)
		less := one.drop(t, "one", api.OK)
		less.make(t, named("more", 3), api.OK)
		tells(t, "one", one.s, one.p)
		w = w.make(t, q, api.OK)
	}
	for _, q := range queues(8) {
		less := w.drop(t, q.Name, api.OK)
		less.make(t, named("one", 1), api.OK)
		less.make(t, named("other", 2), api.OK)
		tells(t, "as it was", w.s, w.p)
	}
}

// Memory: of one others are made: none has the others', however much room there is.
func TestStay(t *testing.T) {
	w := begun(1, plenty)
	for _, q := range queues(8) {
		if q.Name != "q7" {
			one, other := w.make(t, named("one", 1), api.OK), w.make(t, named("other", 1), api.OK)
			tells(t, "one", one.s, one.p)
			one.make(t, named("more", 1), api.OK)
			tells(t, "other", other.s, other.p)
			tells(t, "one", one.s, one.p)
		}
		w = w.make(t, q, api.OK)
		for range q.Most + 2 {
			one, other := w.put(t, q.Name, numbered(3), api.OK), w.put(t, q.Name, numbered(4), api.OK)
			lent := one.lend(t, q.Name, true)
			one.remove(t, q.Name, one.p.piles[len(one.p.piles)-1].items[0].Mail.ID, api.OK)
			other.wake(t)
			other.drop(t, q.Name, api.OK)
			lent.raise(t, 2, numbered(2), api.OK)
			for _, x := range []twin{w, one, other, lent} {
				tells(t, "beside others", x.s, x.p)
			}
			w = one
		}
	}
}

// Memory: what is handed in is neither changed nor kept, its head's spare room included.
func TestHandedIn(t *testing.T) {
	for pairs := range 9 {
		spare := append(keyed(pairs), api.Pair{Key: "spare"}, api.Pair{Key: "room"})
		was := slices.Clone(spare)
		m := api.Mail{ID: 9, Shop: "s", Head: spare[:pairs]}
		w := begun(1, plenty).make(t, named("q", 2), api.OK)
		for range 3 {
			w.s, _, _, _ = w.s.Put("q", m)
			w.s, _ = w.s.Raise(3, m)
			w.p, _, _, _ = w.p.put("q", mail.Copy(m))
			w.p, _ = w.p.raise(3, mail.Copy(m))
		}
		w.s.Raise(-1, m)
		w.s.Put("none", m)
		if !slices.Equal(spare, was) || m.ID != 9 {
			t.Fatalf("%d: %+v, wanted %+v", m.ID, spare, was)
		}
		over(m.Head)
		tells(t, "written over", w.s, w.p)
	}
}

// Memory: what is told may be written to, heads too.
func TestHandedOut(t *testing.T) {
	m := api.Mail{Shop: "s", Head: keyed(5), Due: 1}
	w := begun(1, plenty).make(t, named("q", 2), api.OK).make(t, named("r", 2), api.OK)
	w = w.put(t, "q", m, api.OK).put(t, "q", m, api.OK).put(t, "r", m, api.OK).raise(t, 2, m, api.OK)
	read, code := Of(w.s.Bytes(), w.p.most)
	if code != api.OK {
		t.Fatalf("%d", code)
	}
	for _, s := range []Stock{w.s, read} {
		for range 2 {
			l := s.Queues()
			other := s.Queues()
			l[0] = Queue{"over", 9, 9, "over"}
			_ = append(l[:1], Queue{Name: "over"})
			if other[0].Name != "q" || other[1].Name != "r" {
				t.Errorf("%+v", other)
			}
			for _, name := range []string{"q", "r"} {
				for _, one := range s.Line(name).All() {
					over(one.Mail.Head)
				}
				first, _ := s.Line(name).First()
				over(first.Head)
			}
			for _, one := range s.Rise(2).All() {
				over(one.Head)
			}
			_, late, _ := s.Late(1)
			over(late.Head)
			more, _, gone, _ := s.Put("q", m)
			over(gone.Head)
			_, lent, _ := more.Lend("q")
			over(lent.Mail.Head)
			_, removed, _ := s.Remove("q", 1)
			over(removed.Mail.Head)
			want, _, _, _ := w.p.put("q", m)
			tells(t, "one more", more, want)
			tells(t, "written over", s, w.p)
		}
	}
}

// P21.1: a line, and a rise, that were told stay as they were; what is asked of them changes no stock.
func TestToldParts(t *testing.T) {
	w := begun(1, plenty).make(t, named("q", 3), api.OK).put(t, "q", numbered(5), api.OK).raise(t, 2, numbered(6), api.OK)
	l, x := w.s.Line("q"), w.s.Rise(2)
	lent, _, _ := l.Lend()
	l.Remove(1)
	l.Wake()
	x.Put(numbered(7))
	tells(t, "as it was", w.s, w.p)
	w.lend(t, "q", true).remove(t, "q", 1, api.OK)
	w.put(t, "q", numbered(8), api.OK).raise(t, 2, numbered(9), api.OK)
	if l.Len() != 1 || l.Ready() != 1 || lent.Ready() != 0 || x.Total() != 1 || !rise.Same(x, w.s.Rise(2)) {
		t.Errorf("%+v, %d", l.All(), x.Total())
	}
}
