package stock

import (
	"math"
	"slices"
	"testing"

	"stairwell/api"
	"stairwell/line"
)

// P21.3: bytes that are known, part by part.
func TestBytesKnown(t *testing.T) {
	s, _ := New(0x0102030405060708, 1000).Make(Queue{"ab", 3, 9, "d"})
	s, _ = s.Make(Queue{"c", 64, math.MaxUint64, ""})
	s, _, _, _ = s.Put("ab", api.Mail{ID: 5, Shop: "s", Key: "k", Head: []api.Pair{{Key: "p", Kind: 2, Num: 1}}, Body: "xyz", Due: 6, Hops: 4})
	s, _, _, _ = s.Put("ab", api.Mail{Shop: "a"})
	s, _ = s.Raise(15, api.Mail{ID: 3, Shop: "r"})
	s, _ = s.Raise(2, api.Mail{Shop: "r"})
	s, _, _ = s.Lend("ab")
	const (
		zeros = "\x00\x00\x00\x00\x00\x00\x00"
		ab    = "\x00\x02ab" + zeros + "\x03" + zeros + "\x09" + "\x00\x01d" + "\x02"
		first = "\x01\x02\x03\x04\x05\x06\x07\x08" + "\x00\x01s" + "\x00\x01k" + "\x01\x00\x01p\x02\x01" + "\x00\x03xyz" + zeros + "\x06" + "\x04"
		next  = "\x01\x02\x03\x04\x05\x06\x07\x09" + "\x00\x01a" + "\x00\x00" + "\x00" + "\x00\x00" + zeros + "\x00" + "\x00"
		c     = "\x00\x01c" + zeros + "\x40" + "\xff\xff\xff\xff\xff\xff\xff\xff" + "\x00\x00" + "\x00"
		to2   = "\x02" + zeros + "\x01" + "\x01" + zeros + "\x00" + "\x00\x01r" + "\x00\x00" + "\x00" + "\x00\x00" + zeros + "\x00" + "\x00"
		to15  = "\x0f" + zeros + "\x01" + "\x01" + zeros + "\x03" + "\x00\x01r" + "\x00\x00" + "\x00" + "\x00\x00" + zeros + "\x00" + "\x00"
	)
	bytes := func(one, two string) string {
		return "\x01\x02\x03\x04\x05\x06\x07\x0a" + "\x02" + ab + one + first + two + next + c + "\x02" + to2 + to15
	}
	is := func(s Stock, want string) {
		t.Helper()
		if got := s.Bytes(); got != want {
			t.Errorf("%x, wanted %x", got, want)
		}
		if other, code := Of(want, 1000); code != api.OK || !Same(other, s) {
			t.Errorf("%x: %d", want, code)
		}
	}
	is(s, bytes("\x01", "\x00"))
	back, _ := s.Back("ab", 0x0102030405060708)
	is(back, bytes("\x02", "\x00"))
	back, _, _ = back.Lend("ab")
	is(back, bytes("\x03", "\x00"))
	back, _, _ = back.Lend("ab")
	is(back, bytes("\x03", "\x01"))
	is(back.Wake(), bytes("\x02", "\x02"))
	is(New(0, 1000), zeros+"\x00"+"\x00"+"\x00")
}

// P21.3: bytes that end at each place, and bytes of one more, and of more.
func TestOfShort(t *testing.T) {
	for _, w := range variants(t) {
		text := w.s.Bytes()
		for length := range len(text) {
			refuses(t, text[:length], plenty)
		}
		for _, more := range []string{"\x00", "\x01", "\xff", "\x00\x00", text, letters("\x00", 70000)} {
			refuses(t, text+more, plenty)
		}
	}
	refuses(t, letters("\xff", 3000), plenty)
	refuses(t, letters("\xff", 9), math.MaxInt)
}

// P21.3: of how many bytes there may be: those that there are, one less, and others.
func TestOfRoom(t *testing.T) {
	for _, w := range variants(t) {
		text, size := w.s.Bytes(), w.s.Size()
		for _, bytes := range []int{math.MinInt, -size, -1, 0, 1, size - 1, size, size + 1, 25 * size, math.MaxInt32, math.MaxInt} {
			if max(bytes, 0) < size {
				refuses(t, text, bytes)
				continue
			}
			p := w.p.clone()
			p.most = max(bytes, 0)
			s, code := Of(text, bytes)
			if code != api.OK {
				t.Fatalf("%x of %d bytes: %d", text, bytes, code)
			}
			tells(t, "of other bytes", s, p)
		}
	}
}

// item: a message that is ready, of that ID.
func item(id uint64) line.Item { return line.Item{Mail: api.Mail{ID: id, Shop: "s"}} }

// spoils: the bytes of what it should be are read; as it is spoiled they aren't, whatever there may be.
func spoils(t *testing.T, p plain, how ...func(*plain)) {
	t.Helper()
	p.most = plenty
	s, code := Of(p.bytes(), plenty)
	if code != api.OK {
		t.Fatalf("%x: %d", p.bytes(), code)
	}
	tells(t, "not spoiled", s, p)
	for at, one := range how {
		spoiled := p.clone()
		one(&spoiled)
		if spoiled.bytes() == p.bytes() {
			t.Errorf("%d: nothing is spoiled", at)
		}
		refuses(t, spoiled.bytes(), plenty)
	}
}

// P21.3: queues that may not be, wherever they stand.
func TestOfWrongQueue(t *testing.T) {
	for _, count := range []int{1, 2, 8} {
		p := plain{next: 100}
		for _, q := range queues(count) {
			p.piles = append(p.piles, pile{queue: q})
		}
		for at := range count {
			queue := func(q Queue) func(*plain) {
				return func(p *plain) { p.piles[at].queue = q }
			}
			spoils(t, p,
				queue(Queue{Name: "", Most: 5}), queue(Queue{Name: letters("q", 17), Most: 5}), queue(Queue{Name: "Q", Most: 5}),
				queue(Queue{Name: "a.b", Most: 5}), queue(named("x", 0)), queue(named("x", 65)), queue(named("x", 256+5)),
				queue(named("x", 1<<32+5)), queue(named("x", 1<<56+5)), queue(named("x", math.MaxUint64)),
				queue(Queue{"x", 5, 0, letters("q", 17)}), queue(Queue{"x", 5, 0, "Q"}), queue(Queue{"x", 5, 0, "\x00"}),
			)
		}
	}
}

// P21.3: two queues of one name, the very same ones or not; nine of them.
func TestOfQueues(t *testing.T) {
	p := plain{next: 100}
	for _, q := range queues(8) {
		p.piles = append(p.piles, pile{queue: q})
	}
	var how []func(*plain)
	for at := range 8 {
		for other := range 8 {
			if other == at {
				continue
			}
			how = append(how, func(p *plain) { p.piles[at] = p.piles[other] }, func(p *plain) { p.piles[at].queue.Name = p.piles[other].queue.Name })
		}
		how = append(how,
			func(p *plain) { p.piles = slices.Insert(p.piles, at, pile{queue: named("x", 1)}) },
			func(p *plain) { p.piles = slices.Insert(p.piles, at, p.piles[at]) },
			func(p *plain) { p.piles = append(p.piles[:at+1:at+1], p.piles[at]) },
		)
	}
	spoils(t, p, how...)
}

// P21.3: no line has more messages than its queue's Most.
func TestOfMost(t *testing.T) {
	for _, most := range []int{1, 2, 3, 63, 64} {
		p := plain{next: 1000, piles: []pile{{queue: named("q", 64)}, {queue: named("r", uint64(most))}}}
		for n := range most {
			p.piles[1].items = append(p.piles[1].items, item(uint64(n)))
		}
		more := func(n int) func(*plain) {
			return func(p *plain) {
				for at := range n {
					p.piles[1].items = append(p.piles[1].items, item(uint64(500+at)))
				}
			}
		}
		how := []func(*plain){more(1), more(2), more(64), more(255 - most), func(p *plain) { p.piles[1].queue.Most = 0 }}
		if most > 1 {
			how = append(how, func(p *plain) { p.piles[1].queue.Most-- })
		}
		spoils(t, p, how...)
	}
}

// P21.3: IDs rise within a line, and are below the next one, if there is one.
func TestOfIDs(t *testing.T) {
	p := plain{next: 100, piles: []pile{{queue: named("q", 64)}, {queue: named("r", 64)}}}
	p.piles[0].items = []line.Item{item(0), item(7), item(99)}
	p.piles[1].items = []line.Item{item(7), item(98)} // of another line: the same one may be there
	var how []func(*plain)
	id := func(row, at int, id uint64) {
		how = append(how, func(p *plain) { p.piles[row].items[at].Mail.ID = id })
	}
	id(0, 0, 7)
	id(0, 0, 8)
	id(0, 1, 0)
	id(0, 1, 99)
	id(0, 1, 100)
	id(0, 2, 7)
	id(0, 2, 100)
	id(0, 2, 101)
	id(0, 2, math.MaxUint64)
	id(1, 0, 98)
	id(1, 0, math.MaxUint64)
	id(1, 1, 7)
	id(1, 1, 100)
	id(1, 1, 1<<32)
	for _, next := range []uint64{1, 7, 98, 99} {
		how = append(how, func(p *plain) { p.next = next })
	}
	spoils(t, p, how...)
	ended := plain{piles: p.clone().piles}
	ended.piles[1].items[1].Mail.ID = math.MaxUint64
	spoils(t, ended, func(p *plain) { p.next = math.MaxUint64 }, func(p *plain) { p.next = 1 }, func(p *plain) { p.piles[0].items[0].Mail.ID = 100 })
	last := plain{next: math.MaxUint64, piles: []pile{{queue: named("q", 1), items: []line.Item{item(math.MaxUint64 - 1)}}}}
	spoils(t, last, func(p *plain) { p.piles[0].items[0].Mail.ID++ }, func(p *plain) { p.next-- })
}

// P21.3: messages that may not be, in lines and rises.
func TestOfWrongMail(t *testing.T) {
	p := plain{next: 100, piles: []pile{{queue: named("q", 64)}, {queue: named("r", 64), items: []line.Item{item(1), item(2)}}}}
	p.rises[0] = climb{1, []api.Mail{sized(25)}}
	p.rises[9] = climb{17, slices.Repeat([]api.Mail{sized(25)}, 16)}
	for _, m := range wrongs() {
		m.ID = 2
		spoils(t, p,
			func(p *plain) { p.piles[0].items = []line.Item{{Mail: m}} },
			func(p *plain) { p.piles[1].items[1].Mail = m },
			func(p *plain) { p.rises[0].kept[0] = m },
			func(p *plain) { p.rises[9].kept[15] = m },
			func(p *plain) { p.rises[9].kept[7] = m },
		)
	}
}

// P21.3: rises that may not be.
func TestOfWrongRise(t *testing.T) {
	p := plain{next: 100}
	p.rises[0] = climb{2, []api.Mail{numbered(1), numbered(2)}}
	p.rises[15] = climb{16, slices.Repeat([]api.Mail{sized(25)}, 16)}
	spoils(t, p,
		func(p *plain) { p.rises[0].total = 1 },
		func(p *plain) { p.rises[0].total = 3 },
		func(p *plain) { p.rises[0].total = math.MaxUint64 },
		func(p *plain) { p.rises[0].kept = p.rises[0].kept[:1] },
		func(p *plain) { p.rises[15].total = 15 },
		func(p *plain) { p.rises[15].kept = append(p.rises[15].kept, sized(25)) },
		func(p *plain) { p.rises[15].total++; p.rises[15].kept = append(p.rises[15].kept, sized(25)) },
		func(p *plain) { p.rises[15].total++; p.rises[15].kept = p.rises[15].kept[1:] },
	)
	more := p.clone()
	more.rises[15].total = 17
	more.most = plenty
	if s, code := Of(more.bytes(), plenty); code != api.OK {
		t.Errorf("%d", code)
	} else {
		tells(t, "17 came", s, more)
	}
}

// P21.3: rises stand by rising places, each once, from 0 to 15, none to which nothing came.
func TestOfPlaces(t *testing.T) {
	head := numberOf(1) + "\x00"
	one := climb{1, []api.Mail{sized(25)}}
	rises := func(places ...int) string {
		text := head + byteOf(len(places))
		for _, place := range places {
			text += one.bytes(place)
		}
		return text
	}
	for place := range 256 {
		text := rises(place)
		if place > 15 {
			refuses(t, text, plenty)
			refuses(t, rises(0, place), plenty)
			continue
		}
		p := plain{next: 1, most: plenty}
		p.rises[place] = one
		s, code := Of(text, plenty)
		if code != api.OK {
			t.Fatalf("to %d: %d", place, code)
		}
		tells(t, "to one place", s, p)
		refuses(t, head+"\x01"+climb{}.bytes(place), plenty)
		refuses(t, rises(place, place), plenty)
		for lower := range place {
			refuses(t, rises(place, lower), plenty)
			if s, code := Of(rises(lower, place), plenty); code != api.OK || s.Rise(lower).Total() != 1 || s.Rise(place).Total() != 1 {
				t.Errorf("to %d and %d: %d", lower, place, code)
			}
		}
	}
	all := []int{0, 1, 2, 3, 4, 5, 6, 7, 8, 9, 10, 11, 12, 13, 14, 15}
	if s, code := Of(rises(all...), plenty); code != api.OK || s.Bytes() != rises(all...) {
		t.Errorf("to all: %d", code)
	}
	refuses(t, rises(append(all, 16)...), plenty)
	refuses(t, rises(append(all, 0)...), plenty)
	refuses(t, rises(append(all, 15)...), plenty)
	refuses(t, head+"\x02"+one.bytes(3)+climb{}.bytes(5), plenty)
	refuses(t, head+"\x02"+climb{}.bytes(3)+one.bytes(5), plenty)
	refuses(t, head+"\x02"+climb{}.bytes(3)+one.bytes(3), plenty)
}

// P21.3: of a message a byte of 0 to 3 tells how it stands, another one nothing.
func TestOfState(t *testing.T) {
	p := plain{next: 9, most: plenty, piles: []pile{{queue: named("q", 2), items: []line.Item{item(3)}}}}
	text := p.bytes()
	at := len(text) - 1 - len(bytesOf(item(3).Mail)) - 1
	for state := range 256 {
		turned := text[:at] + byteOf(state) + text[at+1:]
		if state > 3 {
			refuses(t, turned, plenty)
			continue
		}
		p.piles[0].items[0].Lent, p.piles[0].items[0].Again = state%2 == 1, state > 1
		s, code := Of(turned, plenty)
		if code != api.OK {
			t.Fatalf("%d: %d", state, code)
		}
		tells(t, "of a state", s, p)
	}
}

// P21.3: each byte turned to each other one: what is read of it may be, and would be written so.
func TestOfAnyBytes(t *testing.T) {
	a := plain{next: 9, piles: []pile{{queue: Queue{"q", 2, 3, "d"}, items: []line.Item{item(3), {Mail: api.Mail{ID: 8, Shop: "s", Key: "k", Head: keyed(1), Body: "b"}, Lent: true}}}}}
	a.rises[2] = climb{1, []api.Mail{sized(26)}}
	b := plain{piles: []pile{{queue: named("a", 1)}, {queue: named("b", 1)}}}
	c := plain{next: 1}
	c.rises[0], c.rises[1] = climb{1, []api.Mail{sized(25)}}, climb{18, slices.Repeat([]api.Mail{sized(25)}, 16)}
	read := 0
	for _, p := range []plain{a, b, c, {}} {
		text := p.bytes()
		for at := range min(len(text), 170) {
			for value := range 256 {
				turned, bytes := text[:at]+byteOf(value)+text[at+1:], p.size()+at%2
				want, there := plainOf(turned, bytes)
				if !there {
					refuses(t, turned, bytes)
					continue
				}
				s, code := Of(turned, bytes)
				if code != api.OK || s.Bytes() != turned {
					t.Fatalf("%x: %d, %x", turned, code, s.Bytes())
				}
				if read++; read%16 == 0 { // of what would be written so, the rest follows; some of it is looked at
					tells(t, "turned", s, want)
				}
			}
		}
	}
	if read < 1000 {
		t.Errorf("%d were read", read)
	}
}
