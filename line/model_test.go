package line

import (
	"math/rand"
	"reflect"
	"slices"
	"testing"

	"stairwell/api"
	"stairwell/mail"
)

// plain is a line as the document's words have it.
type plain []Item

// alike: are two messages the same in all, a head without pairs being nil or empty?
func alike(a, b api.Mail) bool {
	if len(a.Head) == 0 && len(b.Head) == 0 {
		a.Head, b.Head = nil, nil
	}
	return reflect.DeepEqual(a, b)
}

// same: are two items?
func same(a, b Item) bool { return a.Lent == b.Lent && a.Again == b.Again && alike(a.Mail, b.Mail) }

// find: where that ID is; -1.
func (p plain) find(id uint64) int {
	return slices.IndexFunc(p, func(one Item) bool { return one.Mail.ID == id })
}

// late: where the first ready one is whose time is over; -1.
func (p plain) late(tick uint64) int {
	for at, one := range p {
		if !one.Lent && one.Mail.Due != 0 && one.Mail.Due <= tick {
			return at
		}
	}
	return -1
}

// next: where the first ready one is; -1.
func (p plain) next() int {
	return slices.IndexFunc(p, func(one Item) bool { return !one.Lent })
}

func (p plain) add(one Item) (plain, api.Errno) {
	if code := mail.Check(one.Mail); code != api.OK {
		return p, code
	}
	for _, other := range p {
		if other.Mail.ID >= one.Mail.ID {
			return p, api.ErrOrder
		}
	}
	if len(p) == 64 {
		return p, api.ErrFull
	}
	return append(slices.Clone(p), one), api.OK
}

// with: the same, but for one item.
func (p plain) with(at int, one Item) plain {
	p = slices.Clone(p)
	p[at] = one
	return p
}

func (p plain) lend() (plain, Item, bool) {
	at := p.next()
	if at < 0 {
		return p, Item{}, false
	}
	one := Item{p[at].Mail, true, p[at].Again}
	return p.with(at, one), one, true
}

func (p plain) back(id uint64) (plain, api.Errno) {
	at := p.find(id)
	switch {
	case at < 0:
		return p, api.ErrNone
	case !p[at].Lent:
		return p, api.ErrOrder
	}
	return p.with(at, Item{p[at].Mail, false, true}), api.OK
}

func (p plain) remove(id uint64) (plain, Item, api.Errno) {
	at := p.find(id)
	if at < 0 {
		return p, Item{}, api.ErrNone
	}
	return append(slices.Clone(p[:at]), p[at+1:]...), p[at], api.OK
}

func (p plain) wake() plain {
	p = slices.Clone(p)
	for at, one := range p {
		if one.Lent {
			p[at] = Item{one.Mail, false, true}
		}
	}
	return p
}

// tells: what a line tells in all is that, and it is the same as one of just these items.
func tells(t *testing.T, what string, l Line, p plain) {
	t.Helper()
	ready, size := 0, 0
	for _, one := range p {
		size += mail.Size(one.Mail)
		if !one.Lent {
			ready++
		}
	}
	if got := l.All(); !slices.EqualFunc(got, p, same) {
		t.Fatalf("%s: %+v, wanted %+v", what, got, p)
	}
	if l.Len() != len(p) || l.Ready() != ready || l.Size() != size {
		t.Fatalf("%s: %d, %d ready, %d bytes, wanted %d, %d, %d", what, l.Len(), l.Ready(), l.Size(), len(p), ready, size)
	}
	m, there := l.First()
	is(t, what+": First", m, there, p, p.next())
	for _, tick := range []uint64{0, 1, 2, 3, 4, 5, 6, 7, 8, 1 << 40, 1<<64 - 1} {
		m, there := l.Late(tick)
		is(t, what+": Late", m, there, p, p.late(tick))
	}
	other, code := Of(p)
	if code != api.OK || !Same(l, other) || !Same(other, l) {
		t.Fatalf("%s: not the same as one of %+v (%d)", what, p, code)
	}
}

// is: the message told is the one there; none, where that is -1.
func is(t *testing.T, what string, m api.Mail, there bool, p plain, at int) {
	t.Helper()
	var want api.Mail
	if at >= 0 {
		want = p[at].Mail
	}
	if !alike(m, want) || there != (at >= 0) {
		t.Fatalf("%s: %+v, %v, wanted %+v", what, m, there, want)
	}
}

// called: each call, but Add, of a line, held against the plain one; the line stays as it was.
func called(t *testing.T, l Line, p plain, ids []uint64) {
	t.Helper()
	lent, item, there := l.Lend()
	want, wantItem, wanted := p.lend()
	if !same(item, wantItem) || there != wanted {
		t.Fatalf("Lend of %+v: %+v, %v", p, item, there)
	}
	tells(t, "Lend", lent, want)
	tells(t, "Wake", l.Wake(), p.wake())
	for _, id := range ids {
		back, code := l.Back(id)
		want, wanted := p.back(id)
		if code != wanted {
			t.Fatalf("Back of %d of %+v: %d, wanted %d", id, p, code, wanted)
		}
		tells(t, "Back", back, want)
		removed, item, code := l.Remove(id)
		want, wantItem, wanted := p.remove(id)
		if !same(item, wantItem) || code != wanted {
			t.Fatalf("Remove of %d of %+v: %+v, %d, wanted %d", id, p, item, code, wanted)
		}
		tells(t, "Remove", removed, want)
	}
	tells(t, "as it was", l, p)
}

// P18.1, P18.2: of each line of up to four messages, each of them ready or lent, marked or not, each call.
func TestAllSmall(t *testing.T) {
	ids := []uint64{0, 3, 5, 9, 10}
	for count := range 5 {
		for states := range 1 << (2 * count) {
			var p plain
			for at := range count {
				state := states >> (2 * at)
				m := api.Mail{ID: ids[at], Shop: "s", Body: letters("b", at), Due: uint64(5*at) % 7}
				p = append(p, Item{m, state&1 != 0, state&2 != 0})
			}
			l, code := Of(p)
			if code != api.OK {
				t.Fatalf("%+v: %d", p, code)
			}
			tells(t, "Of", l, p)
			called(t, l, p, append(ids, 1, 4, 1<<64-1))
			for _, id := range append(ids, 1<<64-1) {
				m := api.Mail{ID: id, Shop: "s"}
				more, code := l.Add(m)
				want, wanted := p.add(Item{Mail: m})
				if code != wanted {
					t.Fatalf("Add of %d to %+v: %d, wanted %d", id, p, code, wanted)
				}
				tells(t, "Add", more, want)
			}
		}
	}
}

// thrown: a message by chance, that now and then may not be.
func thrown(r *rand.Rand, next uint64) api.Mail {
	m := api.Mail{ID: next + uint64(r.Intn(3)), Shop: "s", Key: "a.b", Body: letters("b", r.Intn(10)), Due: uint64(r.Intn(9))}
	for at := range r.Intn(3) {
		m.Head = append(m.Head, api.Pair{Key: letters("k", at+1), Num: int64(at)})
	}
	switch r.Intn(40) {
	case 0:
		m.Shop = ""
	case 1:
		m.Hops = 5
	case 2:
		m.ID = uint64(r.Intn(int(next) + 1))
	}
	return m
}

// step: a line, and the plain one, when something was asked of both.
func step(t *testing.T, r *rand.Rand, l Line, p plain, next uint64) (Line, plain, api.Errno) {
	t.Helper()
	id := uint64(r.Intn(int(next) + 2))
	if len(p) > 0 && r.Intn(8) > 0 {
		id = p[r.Intn(len(p))].Mail.ID
	}
	var code, wanted api.Errno
	switch r.Intn(14) {
	case 0, 1, 2:
		l, _, _ = l.Lend()
		p, _, _ = p.lend()
	case 3, 4:
		l, code = l.Back(id)
		p, wanted = p.back(id)
	case 5:
		l, _, code = l.Remove(id)
		p, _, wanted = p.remove(id)
	case 6:
		if r.Intn(6) == 0 {
			l, p = l.Wake(), p.wake()
		}
	default:
		m := thrown(r, next)
		handed := mail.Copy(m)
		l, code = l.Add(handed)
		for at := range handed.Head {
			handed.Head[at] = api.Pair{}
		}
		p, wanted = p.add(Item{Mail: m})
	}
	if code != wanted {
		t.Fatalf("%d, wanted %d, of %+v", code, wanted, p)
	}
	return l, p, code
}

// P18.1 to P18.3: long rows of calls, held against the document's words behind each; each line that was left behind is at the
// end as it was, though others were made of it.
func TestRows(t *testing.T) {
	seen := map[api.Errno]int{}
	for seed := range int64(24) {
		r := rand.New(rand.NewSource(seed))
		begun := many([]int{0, 3, 50, 60}[seed%4])
		lines, plains := []Line{of(t, begun)}, []plain{begun}
		next := uint64(10 * len(begun))
		for range 200 {
			at := len(lines) - 1
			if r.Intn(15) == 0 {
				at = r.Intn(len(lines))
			}
			l, p, code := step(t, r, lines[at], plains[at], next)
			tells(t, "behind it", l, p)
			seen[code]++
			if len(p) > 0 {
				next = max(next, p[len(p)-1].Mail.ID)
			}
			lines, plains = append(lines, l), append(plains, p)
		}
		for at := range lines {
			tells(t, "at the end", lines[at], plains[at])
			other := r.Intn(len(lines))
			if got := Same(lines[at], lines[other]); got != slices.EqualFunc(plains[at], plains[other], same) {
				t.Fatalf("row %d, lines %d and %d: %v", seed, at, other, got)
			}
		}
	}
	for _, code := range []api.Errno{api.OK, api.ErrEmpty, api.ErrRange, api.ErrOrder, api.ErrFull, api.ErrNone} {
		if seen[code] == 0 {
			t.Errorf("no row comes to the error %d", code)
		}
	}
}
