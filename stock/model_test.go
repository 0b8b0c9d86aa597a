package stock

import (
	"encoding/binary"
	"math"
	"math/rand"
	"reflect"
	"slices"
	"strconv"
	"strings"
	"testing"

	"stairwell/api"
	"stairwell/line"
	"stairwell/mail"
	"stairwell/octet"
	"stairwell/words"
)

// pile is a queue, and its messages.
type pile struct {
	queue Queue
	items []line.Item
}

// climb is a rise: how many came, and those that are kept.
type climb struct {
	total uint64
	kept  []api.Mail
}

// plain is a stock as the document's words have it.
type plain struct {
	next  uint64
	most  int
	piles []pile
	rises [16]climb
}

// clone: the same, of which each part may be changed.
func (p plain) clone() plain {
	p.piles = slices.Clone(p.piles)
	for at := range p.piles {
		p.piles[at].items = slices.Clone(p.piles[at].items)
	}
	for at := range p.rises {
		p.rises[at].kept = slices.Clone(p.rises[at].kept)
	}
	return p
}

// find: at which of its queues that name is; -1.
func (p plain) find(name string) int {
	return slices.IndexFunc(p.piles, func(x pile) bool { return x.queue.Name == name })
}

// ready: where the first ready one is; -1.
func (x pile) ready() int {
	return slices.IndexFunc(x.items, func(one line.Item) bool { return !one.Lent })
}

// of: where the one of that ID is; -1.
func (x pile) of(id uint64) int {
	return slices.IndexFunc(x.items, func(one line.Item) bool { return one.Mail.ID == id })
}

// wrongQueue: why a queue may not be.
func wrongQueue(q Queue) api.Errno {
	if code := words.Name(q.Name); code != api.OK {
		return code
	}
	if q.Most < 1 || q.Most > 64 {
		return api.ErrRange
	}
	if q.Dead != "" {
		return words.Name(q.Dead)
	}
	return api.OK
}

func (p plain) make(q Queue) (plain, api.Errno) {
	at := p.find(q.Name)
	if at >= 0 && p.piles[at].queue == q {
		return p, api.OK
	}
	if code := wrongQueue(q); code != api.OK {
		return p, code
	}
	if at >= 0 {
		return p, api.ErrThere
	}
	if len(p.piles) == 8 {
		return p, api.ErrFull
	}
	p = p.clone()
	p.piles = append(p.piles, pile{queue: q})
	return p, api.OK
}

func (p plain) drop(name string) (plain, api.Errno) {
	at := p.find(name)
	if at < 0 {
		return p, api.ErrNone
	}
	p = p.clone()
	p.piles = slices.Delete(p.piles, at, at+1)
	return p, api.OK
}

func (p plain) put(name string, m api.Mail) (plain, uint64, api.Mail, api.Errno) {
	at := p.find(name)
	if at < 0 {
		return p, 0, api.Mail{}, api.ErrNone
	}
	if code := mail.Check(m); code != api.OK {
		return p, 0, api.Mail{}, code
	}
	if p.next == 0 {
		return p, 0, api.Mail{}, api.ErrEnd
	}
	more, gone := p.clone(), api.Mail{}
	x := &more.piles[at]
	if len(x.items) == int(x.queue.Most) {
		first := x.ready()
		if first < 0 {
			return p, 0, api.Mail{}, api.ErrFull
		}
		gone = x.items[first].Mail
		x.items = slices.Delete(x.items, first, first+1)
	}
	m.ID = p.next
	x.items = append(x.items, line.Item{Mail: m})
	if more.size() > more.most {
		return p, 0, api.Mail{}, api.ErrFull
	}
	more.next++
	return more, p.next, gone, api.OK
}

func (p plain) lend(name string) (plain, line.Item, bool) {
	at := p.find(name)
	if at < 0 || p.piles[at].ready() < 0 {
		return p, line.Item{}, false
	}
	p = p.clone()
	x := p.piles[at]
	first := x.ready()
	x.items[first].Lent = true
	return p, x.items[first], true
}

func (p plain) back(name string, id uint64) (plain, api.Errno) {
	at := p.find(name)
	if at < 0 || p.piles[at].of(id) < 0 {
		return p, api.ErrNone
	}
	where := p.piles[at].of(id)
	if !p.piles[at].items[where].Lent {
		return p, api.ErrOrder
	}
	p = p.clone()
	one := &p.piles[at].items[where]
	one.Lent, one.Again = false, true
	return p, api.OK
}

func (p plain) remove(name string, id uint64) (plain, line.Item, api.Errno) {
	at := p.find(name)
	if at < 0 || p.piles[at].of(id) < 0 {
		return p, line.Item{}, api.ErrNone
	}
	p = p.clone()
	x := &p.piles[at]
	where := x.of(id)
	one := x.items[where]
	x.items = slices.Delete(x.items, where, where+1)
	return p, one, api.OK
}

func (p plain) raise(place int, m api.Mail) (plain, api.Errno) {
	if place < 0 || place > 15 {
		return p, api.ErrRange
	}
	if code := mail.Check(m); code != api.OK {
		return p, code
	}
	if p.rises[place].total == math.MaxUint64 {
		return p, api.ErrEnd
	}
	more := p.clone()
	x := &more.rises[place]
	x.total++
	x.kept = append(x.kept, m)
	x.kept = x.kept[max(0, len(x.kept)-16):]
	if more.size() > more.most {
		return p, api.ErrFull
	}
	return more, api.OK
}

func (p plain) late(tick uint64) (string, api.Mail, bool) {
	for _, x := range p.piles {
		for _, one := range x.items {
			if !one.Lent && one.Mail.Due != 0 && one.Mail.Due <= tick {
				return x.queue.Name, one.Mail, true
			}
		}
	}
	return "", api.Mail{}, false
}

func (p plain) wake() plain {
	p = p.clone()
	for _, x := range p.piles {
		for at, one := range x.items {
			if one.Lent {
				x.items[at] = line.Item{Mail: one.Mail, Again: true}
			}
		}
	}
	return p
}

// size: how many bytes all messages have.
func (p plain) size() int {
	n := 0
	for _, x := range p.piles {
		for _, one := range x.items {
			n += len(bytesOf(one.Mail))
		}
	}
	for _, x := range p.rises {
		n += len(bytesOf(x.kept...))
	}
	return n
}

// ids: of all messages in lines.
func (p plain) ids() []uint64 {
	var l []uint64
	for _, x := range p.piles {
		for _, one := range x.items {
			l = append(l, one.Mail.ID)
		}
	}
	return l
}

// mayBe: may it be?
func (p plain) mayBe() bool {
	if len(p.piles) > 8 || p.size() > p.most {
		return false
	}
	for at, x := range p.piles {
		if wrongQueue(x.queue) != api.OK || p.find(x.queue.Name) != at || len(x.items) > int(x.queue.Most) {
			return false
		}
		for n, one := range x.items {
			if mail.Check(one.Mail) != api.OK || p.next != 0 && one.Mail.ID >= p.next || n > 0 && x.items[n-1].Mail.ID >= one.Mail.ID {
				return false
			}
		}
	}
	for _, x := range p.rises {
		if len(x.kept) != int(min(x.total, 16)) || slices.ContainsFunc(x.kept, func(m api.Mail) bool { return mail.Check(m) != api.OK }) {
			return false
		}
	}
	return true
}

// numberOf: a number's bytes.
func numberOf(n uint64) string { return string(binary.BigEndian.AppendUint64(nil, n)) }

// byteOf: a byte.
func byteOf(n int) string { return string([]byte{byte(n)}) }

// textOf: a text's bytes.
func textOf(s string) string {
	return string(binary.BigEndian.AppendUint16(nil, uint16(len(s)))) + s
}

// bytesOf: messages one behind the other, as bytes, whether they may be or not; the pairs are numbers.
func bytesOf(l ...api.Mail) string {
	s := ""
	for _, m := range l {
		s += numberOf(m.ID) + textOf(m.Shop) + textOf(m.Key) + byteOf(len(m.Head))
		for _, one := range m.Head {
			s += textOf(one.Key) + byteOf(int(one.Kind)) + numberOf(uint64(one.Num))
		}
		s += textOf(m.Body) + numberOf(m.Due) + byteOf(int(m.Hops))
	}
	return s
}

// bytes: a queue's, with its messages', whether it may be or not.
func (x pile) bytes() string {
	q := x.queue
	s := textOf(q.Name) + numberOf(q.Most) + numberOf(q.Life) + textOf(q.Dead) + byteOf(len(x.items))
	for _, one := range x.items {
		state := 0
		if one.Lent {
			state++
		}
		if one.Again {
			state += 2
		}
		s += byteOf(state) + bytesOf(one.Mail)
	}
	return s
}

// bytes: a rise's, with its place.
func (x climb) bytes(place int) string {
	return byteOf(place) + numberOf(x.total) + byteOf(len(x.kept)) + bytesOf(x.kept...)
}

// bytes: all of it, whether it may be or not.
func (p plain) bytes() string {
	s := numberOf(p.next) + byteOf(len(p.piles))
	for _, x := range p.piles {
		s += x.bytes()
	}
	count, rises := 0, ""
	for place, x := range p.rises {
		if x.total > 0 {
			count++
			rises += x.bytes(place)
		}
	}
	return s + byteOf(count) + rises
}

// plainOf: the stock of some bytes, as the document's words have it, messages as layer 13 reads them; whether there is one.
func plainOf(text string, bytes int) (plain, bool) {
	i := octet.New(text)
	p := plain{next: i.Num(8), most: max(bytes, 0)}
	for range i.Num(1) {
		var x pile
		x.queue.Name = i.Text(16)
		x.queue.Most = i.Num(8)
		x.queue.Life = i.Num(8)
		x.queue.Dead = i.Text(16)
		for range i.Num(1) {
			state := i.Num(1)
			if state > 3 {
				return plain{}, false
			}
			x.items = append(x.items, line.Item{Mail: mail.Read(i), Lent: state == 1 || state == 3, Again: state >= 2})
		}
		p.piles = append(p.piles, x)
	}
	last := -1
	for range i.Num(1) {
		place := int(i.Num(1))
		if place <= last || place > 15 {
			return plain{}, false
		}
		last = place
		x := climb{total: i.Num(8)}
		for range i.Num(1) {
			x.kept = append(x.kept, mail.Read(i))
		}
		if x.total == 0 {
			return plain{}, false
		}
		p.rises[place] = x
	}
	return p, i.End() == api.OK && p.mayBe()
}

// alike: are two messages the same in all, a head without pairs being nil or empty?
func alike(a, b api.Mail) bool {
	if len(a.Head) == 0 && len(b.Head) == 0 {
		a.Head, b.Head = nil, nil
	}
	return reflect.DeepEqual(a, b)
}

// same: are two items?
func same(a, b line.Item) bool {
	return a.Lent == b.Lent && a.Again == b.Again && alike(a.Mail, b.Mail)
}

// letters: a text of so many of one letter.
func letters(letter string, n int) string { return strings.Repeat(letter, n) }

// over: a head is written over, its spare room, too.
func over(h []api.Pair) {
	for at := range h[:cap(h)] {
		h[:cap(h)][at] = api.Pair{Key: "over"}
	}
}

// keyed: so many pairs of unlike keys.
func keyed(n int) []api.Pair {
	var l []api.Pair
	for at := range n {
		l = append(l, api.Pair{Key: letters("k", at+1), Num: int64(at) - 2})
	}
	return l
}

// numbered: a message of that number, unlike that of each other number up to 256.
func numbered(n int) api.Mail {
	return api.Mail{ID: uint64(n) * 0x0102030405, Shop: "s", Key: "a.b", Head: keyed(n % 4), Body: letters("b", n), Due: uint64(n % 3), Hops: uint8(n % 5)}
}

// greatest: a message that has at each edge the most.
func greatest() api.Mail {
	return api.Mail{ID: math.MaxUint64, Shop: letters("s", 16), Key: letters("k", 64), Head: keyed(8), Body: letters("\xff", 256), Due: math.MaxUint64, Hops: 4}
}

// sized: a message of so many bytes, from 25 to 345.
func sized(n int) api.Mail {
	m := api.Mail{Shop: "a", Body: letters("b", min(n-25, 256))}
	m.Key = letters("k", n-25-len(m.Body))
	return m
}

// named: a queue of that name, and so many messages.
func named(name string, most uint64) Queue { return Queue{Name: name, Most: most} }

// queues: so many, of unlike names.
func queues(n int) []Queue {
	var l []Queue
	for at := range n {
		l = append(l, Queue{Name: "q" + strconv.Itoa(at), Most: uint64(at%64 + 1), Life: uint64(at * at), Dead: []string{"", "dead", "d"}[at%3]})
	}
	return l
}

// tells: what a stock tells in all is that; of its bytes it is made again.
func tells(t *testing.T, what string, s Stock, p plain) {
	t.Helper()
	if !p.mayBe() {
		t.Fatalf("%s: %+v may not be", what, p)
	}
	l := s.Queues()
	if len(l) != len(p.piles) {
		t.Fatalf("%s: %+v, wanted %+v", what, l, p.piles)
	}
	for at, x := range p.piles {
		q, there := s.Queue(x.queue.Name)
		if l[at] != x.queue || q != x.queue || !there {
			t.Fatalf("%s: %+v, %v, wanted %+v", what, q, there, x.queue)
		}
		if got := s.Line(x.queue.Name).All(); !slices.EqualFunc(got, x.items, same) {
			t.Fatalf("%s: of %s %+v, wanted %+v", what, q.Name, got, x.items)
		}
	}
	for place, x := range p.rises {
		if got := s.Rise(place); got.Total() != x.total || !slices.EqualFunc(got.All(), x.kept, alike) {
			t.Fatalf("%s: to %d %d, %+v, wanted %+v", what, place, got.Total(), got.All(), x)
		}
	}
	if s.Next() != p.next || s.Size() != p.size() || s.Room() != p.most-p.size() {
		t.Fatalf("%s: next %d, %d bytes, room for %d, wanted %d, %d of %d", what, s.Next(), s.Size(), s.Room(), p.next, p.size(), p.most)
	}
	for _, tick := range []uint64{0, 1, 2, 3, 4, 5, 6, 7, 8, 1 << 40, math.MaxUint64} {
		name, m, late := s.Late(tick)
		wantName, want, wanted := p.late(tick)
		if name != wantName || late != wanted || !alike(m, want) {
			t.Fatalf("%s: late at %d: %q, %+v, %v, wanted %q, %+v", what, tick, name, m, late, wantName, want)
		}
	}
	lacks(t, what, s, p)
	rewritten(t, what, s, p)
}

// lacks: of queues that aren't there, and of what is no place, it tells nothing.
func lacks(t *testing.T, what string, s Stock, p plain) {
	t.Helper()
	for _, name := range []string{"", "none", "q", "q0", "q7", "q8", "Q", letters("q", 17), "q\x00"} {
		if p.find(name) >= 0 {
			continue
		}
		if q, there := s.Queue(name); q != (Queue{}) || there || s.Line(name).Len() != 0 {
			t.Fatalf("%s: a queue %q: %+v, %v", what, name, q, there)
		}
	}
	for _, place := range []int{-1, 16, 17, math.MinInt, math.MaxInt, 256, -16, 1 << 32} {
		if x := s.Rise(place); x.Total() != 0 || len(x.All()) > 0 {
			t.Fatalf("%s: a rise to %d: %+v", what, place, x.All())
		}
	}
}

// rewritten: its bytes are those; of them it is made again, if there may be as many bytes.
func rewritten(t *testing.T, what string, s Stock, p plain) {
	t.Helper()
	text := s.Bytes()
	if text != p.bytes() {
		t.Fatalf("%s: bytes %x, wanted %x", what, text, p.bytes())
	}
	other, code := Of(text, p.most)
	if code != api.OK || other.Bytes() != text || other.Room() != s.Room() || !Same(s, other) || !Same(other, s) || !Same(s, s) {
		t.Fatalf("%s: read again: %d, %x", what, code, other.Bytes())
	}
	if p.size() < p.most {
		if other, code = Of(text, p.size()); code != api.OK || other.Room() != 0 || other.Bytes() != text || Same(s, other) {
			t.Fatalf("%s: without room: %d, room for %d", what, code, other.Room())
		}
	}
	if p.size() > 0 {
		refuses(t, text, p.size()-1)
	}
}

// refuses: a text isn't the bytes of a stock that may be, of so many bytes.
func refuses(t *testing.T, text string, bytes int) {
	t.Helper()
	s, code := Of(text, bytes)
	if code != api.ErrForm {
		t.Fatalf("%x of %d bytes: %d", text, bytes, code)
	}
	if !Same(s, Stock{}) || s.Next() != 0 || s.Size() != 0 || s.Room() != 0 || len(s.Queues()) > 0 || s.Bytes() != letters("\x00", 10) {
		t.Fatalf("%x of %d bytes: %+v", text, bytes, s)
	}
}

// twin is a stock, and what it should be. Each call is asked of both: what they answer is the same, what comes of it tells that,
// and what was there stays as it was.
type twin struct {
	s    Stock
	p    plain
	seen map[api.Errno]int // how often each error was told, where that is counted
}

// whatever is an error that isn't known ahead: that of the plain one.
const whatever = api.Errno(-1)

// begun: a new one.
func begun(base uint64, bytes int) twin {
	return twin{s: New(base, bytes), p: plain{next: base, most: max(bytes, 0)}}
}

// goes: what comes of a call.
func (w twin) goes(t *testing.T, what string, more twin, code, plainCode, want api.Errno) twin {
	t.Helper()
	if code != plainCode || want != whatever && code != want {
		t.Fatalf("%s: %d, wanted %d (%d)", what, code, want, plainCode)
	}
	tells(t, what, more.s, more.p)
	tells(t, what+", as it was", w.s, w.p)
	if w.seen != nil {
		w.seen[code]++
	}
	more.seen = w.seen
	return more
}

func (w twin) make(t *testing.T, q Queue, want api.Errno) twin {
	t.Helper()
	s, code := w.s.Make(q)
	p, plainCode := w.p.make(q)
	return w.goes(t, "Make", twin{s: s, p: p}, code, plainCode, want)
}

func (w twin) drop(t *testing.T, name string, want api.Errno) twin {
	t.Helper()
	s, code := w.s.Drop(name)
	p, plainCode := w.p.drop(name)
	return w.goes(t, "Drop", twin{s: s, p: p}, code, plainCode, want)
}

func (w twin) put(t *testing.T, name string, m api.Mail, want api.Errno) twin {
	t.Helper()
	handed := mail.Copy(m)
	s, id, gone, code := w.s.Put(name, handed)
	over(handed.Head)
	p, wantID, wantGone, plainCode := w.p.put(name, m)
	if id != wantID || !alike(gone, wantGone) {
		t.Fatalf("Put to %q: %d, %+v, wanted %d, %+v", name, id, gone, wantID, wantGone)
	}
	over(gone.Head)
	return w.goes(t, "Put", twin{s: s, p: p}, code, plainCode, want)
}

func (w twin) lend(t *testing.T, name string, want bool) twin {
	t.Helper()
	s, one, lent := w.s.Lend(name)
	p, wantOne, plainLent := w.p.lend(name)
	if lent != want || lent != plainLent || !same(one, wantOne) {
		t.Fatalf("Lend of %q: %+v, %v, wanted %+v, %v", name, one, lent, wantOne, want)
	}
	over(one.Mail.Head)
	return w.goes(t, "Lend", twin{s: s, p: p}, api.OK, api.OK, api.OK)
}

func (w twin) back(t *testing.T, name string, id uint64, want api.Errno) twin {
	t.Helper()
	s, code := w.s.Back(name, id)
	p, plainCode := w.p.back(name, id)
	return w.goes(t, "Back", twin{s: s, p: p}, code, plainCode, want)
}

func (w twin) remove(t *testing.T, name string, id uint64, want api.Errno) twin {
	t.Helper()
	s, one, code := w.s.Remove(name, id)
	p, wantOne, plainCode := w.p.remove(name, id)
	if !same(one, wantOne) {
		t.Fatalf("Remove of %d of %q: %+v, wanted %+v", id, name, one, wantOne)
	}
	over(one.Mail.Head)
	return w.goes(t, "Remove", twin{s: s, p: p}, code, plainCode, want)
}

func (w twin) raise(t *testing.T, place int, m api.Mail, want api.Errno) twin {
	t.Helper()
	handed := mail.Copy(m)
	s, code := w.s.Raise(place, handed)
	over(handed.Head)
	p, plainCode := w.p.raise(place, m)
	return w.goes(t, "Raise", twin{s: s, p: p}, code, plainCode, want)
}

func (w twin) wake(t *testing.T) twin {
	t.Helper()
	return w.goes(t, "Wake", twin{s: w.s.Wake(), p: w.p.wake()}, api.OK, api.OK, api.OK)
}

// fill: with so many messages more in a queue, the first of that number; what is told on the way isn't looked at.
func (w twin) fill(t *testing.T, name string, first, count int) twin {
	t.Helper()
	for at := range count {
		var code, plainCode api.Errno
		w.s, _, _, code = w.s.Put(name, numbered(first+at))
		w.p, _, _, plainCode = w.p.put(name, numbered(first+at))
		if code != api.OK || plainCode != api.OK {
			t.Fatalf("%d of %d: %d, wanted %d", at, count, code, plainCode)
		}
	}
	tells(t, "filled", w.s, w.p)
	return w
}

// thrown: a message by chance, that now and then may not be.
func thrown(r *rand.Rand) api.Mail {
	m := api.Mail{ID: r.Uint64() >> r.Intn(64), Shop: "s", Head: keyed(r.Intn(4)), Body: letters("b", r.Intn(30)), Due: uint64(r.Intn(9))}
	switch r.Intn(30) {
	case 0:
		m.Shop = ""
	case 1:
		m.Hops = 5
	case 2:
		m = greatest()
	}
	return m
}

// thrownQueue: a queue by chance, that now and then may not be.
func thrownQueue(r *rand.Rand) Queue {
	q := Queue{Name: "q" + strconv.Itoa(r.Intn(10)), Most: []uint64{1, 2, 3, 64}[r.Intn(4)], Life: uint64(r.Intn(2))}
	switch r.Intn(20) {
	case 0:
		q.Name = "Q"
	case 1:
		q.Most = 65
	case 2:
		q.Dead = "*"
	case 3:
		q.Most = 0
	}
	return q
}

// thrownID: that of one that is there, mostly.
func (w twin) thrownID(r *rand.Rand, name string) uint64 {
	items := w.s.Line(name).All()
	if len(items) == 0 || r.Intn(8) == 0 {
		return uint64(r.Intn(20))
	}
	return items[r.Intn(len(items))].Mail.ID
}

// thrownName: that of one that is there, mostly.
func (w twin) thrownName(r *rand.Rand) string {
	l := w.s.Queues()
	if len(l) == 0 || r.Intn(10) == 0 {
		return "q" + strconv.Itoa(r.Intn(10))
	}
	return l[r.Intn(len(l))].Name
}

// step: something is asked of both.
func (w twin) step(t *testing.T, r *rand.Rand) twin {
	t.Helper()
	name := w.thrownName(r)
	switch r.Intn(20) {
	case 0, 1, 2:
		if q, there := w.s.Queue(name); there && r.Intn(4) == 0 {
			return w.make(t, q, api.OK)
		}
		return w.make(t, thrownQueue(r), whatever)
	case 3:
		if r.Intn(4) == 0 {
			return w.drop(t, name, whatever)
		}
		return w.drop(t, "none", api.ErrNone)
	case 4, 5, 6:
		_, _, there := w.p.lend(name)
		return w.lend(t, name, there)
	case 7, 8:
		return w.back(t, name, w.thrownID(r, name), whatever)
	case 9, 10:
		return w.remove(t, name, w.thrownID(r, name), whatever)
	case 11:
		if r.Intn(3) == 0 {
			return w.wake(t)
		}
		return w.raise(t, r.Intn(18)-1, thrown(r), whatever)
	case 12, 13, 14:
		return w.raise(t, []int{0, 1, 15}[r.Intn(3)], thrown(r), whatever)
	}
	return w.put(t, name, thrown(r), whatever)
}

// P21.1 to P21.4: long rows of calls behind New, held against the document's words behind each; a stock that others were made of
// is at the end as it was.
func TestRows(t *testing.T) {
	seen := map[api.Errno]int{}
	for seed := range int64(30) {
		r := rand.New(rand.NewSource(seed))
		base := []uint64{1, 0, 1 << 63, math.MaxUint64 - 20, 12345, math.MaxUint64}[seed%6]
		all := []twin{begun(base, []int{300, 1500, 4000, 1 << 20, 0}[seed%5])}
		all[0].seen = seen
		for range 120 {
			at := len(all) - 1
			if r.Intn(25) == 0 {
				at = r.Intn(len(all))
			}
			all = append(all, all[at].step(t, r))
		}
		for at, w := range all {
			tells(t, "at the end", w.s, w.p)
			other := all[r.Intn(len(all))]
			if got, want := Same(w.s, other.s), w.p.bytes() == other.p.bytes(); got != want {
				t.Fatalf("row %d, %d and another one: %v, wanted %v", seed, at, got, want)
			}
		}
	}
	for _, code := range []api.Errno{api.OK, api.ErrEmpty, api.ErrForm, api.ErrRange, api.ErrThere, api.ErrNone, api.ErrFull, api.ErrOrder, api.ErrEnd} {
		if seen[code] == 0 {
			t.Errorf("no row comes to the error %d", code)
		}
	}
}

// P21.2, P21.4: behind New no ID is told twice, whatever is asked for between; they rise by one, and end behind the last one.
func TestIDs(t *testing.T) {
	for seed := range int64(12) {
		r := rand.New(rand.NewSource(seed))
		base := []uint64{1, 7, 0, math.MaxUint64 - 30, math.MaxUint64, 1<<32 - 9}[seed%6]
		s, wanted, seen := New(base, 3000), base, map[uint64]bool{}
		for range 1500 {
			name := "q" + strconv.Itoa(r.Intn(10))
			switch r.Intn(16) {
			case 0, 1:
				s, _ = s.Make(thrownQueue(r))
			case 2:
				s, _ = s.Drop(name)
			case 3, 4:
				s, _, _ = s.Lend(name)
			case 5:
				s, _, _ = s.Remove(name, wanted-uint64(r.Intn(9)))
			case 6:
				s, _ = s.Back(name, wanted-1)
			case 7:
				s = s.Wake()
			case 8:
				s, _ = s.Raise(r.Intn(18)-1, thrown(r))
			case 9:
				var code api.Errno
				if s, code = Of(s.Bytes(), 3000); code != api.OK {
					t.Fatalf("row %d: %d", seed, code)
				}
			default:
				var id uint64
				var code api.Errno
				if s, id, _, code = s.Put(name, thrown(r)); code != api.OK {
					continue
				}
				if id == 0 || id != wanted || seen[id] {
					t.Fatalf("row %d: told %d, wanted %d", seed, id, wanted)
				}
				seen[id] = true
				wanted++
			}
			if s.Next() != wanted {
				t.Fatalf("row %d: next %d, wanted %d", seed, s.Next(), wanted)
			}
		}
		if base > math.MaxInt64 && wanted != 0 || base > 0 && base < math.MaxInt64 && len(seen) < 50 {
			t.Errorf("row %d of %d tells %d IDs", seed, base, len(seen))
		}
	}
}
