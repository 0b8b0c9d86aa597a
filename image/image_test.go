package image

import (
	"math"
	"math/rand"
	"slices"
	"strconv"
	"strings"
	"testing"

	"stairwell/api"
	"stairwell/deed"
	"stairwell/head"
	"stairwell/line"
	"stairwell/mail"
	"stairwell/match"
	"stairwell/notes"
	"stairwell/policy"
	"stairwell/route"
	"stairwell/stock"
	"stairwell/store"
)

// Of Examples: of a new store 225 bytes, of which the stock has 10, Seen 128, Spent 72.
func TestExample(t *testing.T) {
	p := ladder(t)
	for place, base := range []uint64{1, 100, 200, 9} {
		s := store.New(p, place)
		want := "\x00" + "\x00" + "\x00\x00\x00\x0a" + great(base) + "\x00" + "\x00" + strings.Repeat("\x00", 9) + strings.Repeat("\x00", 128+72)
		if got := Bytes(s.Parts()); got != want || len(got) != 225 {
			t.Errorf("%d bytes: %x", len(got), got)
		}
		written(t, "new", s, p, place)
	}
}

// P24.1: bytes that are known, part by part.
func TestBytesKnown(t *testing.T) {
	p := ladder(t)
	s := done(t, store.New(p, left), newQueue("q", 3, 9, "d"), newShop("h", match.Heads, ""), newShop("r", route.Release, "right"),
		bound(route.Bind{Shop: "h", To: "q", Want: []api.Pair{{Key: "p", Kind: 2, Num: 1}}, All: true}),
		bound(route.Bind{Shop: "h", To: "high", Up: true, Key: "a.#"}),
		put(6, api.Mail{Shop: "r", Body: "x"}),
		deed.Deed{Kind: deed.Pull, Tick: 7, From: low, Number: 258, Mail: api.Mail{Shop: "h", Head: []api.Pair{{Key: "p", Kind: 2, Num: 1}}}})
	const (
		zeros = "\x00\x00\x00\x00\x00\x00\x00"
		eight = zeros + "\x00"
		shops = "\x02" + "\x00\x01h" + "\x03" + "\x00\x00" + "\x00\x01r" + "\x04" + "\x00\x05right"
		binds = "\x02" + "\x00\x01h" + "\x00\x01q" + "\x00" + "\x00\x00" + "\x01\x00\x01p\x02\x01" + "\x01" +
			"\x00\x01h" + "\x00\x04high" + "\x01" + "\x00\x03a.#" + "\x00" + "\x00"
		queue = "\x00\x01q" + zeros + "\x03" + zeros + "\x09" + "\x00\x01d" + "\x01" + "\x00" +
			zeros + "\x64" + "\x00\x01h" + "\x00\x00" + "\x01\x00\x01p\x02\x01" + "\x00\x00" + zeros + "\x10" + "\x01"
		rise  = "\x02" + zeros + "\x01" + "\x01" + eight + "\x00\x01r" + "\x00\x00" + "\x00" + "\x00\x01x" + eight + "\x00"
		kept  = zeros + "\x65" + "\x01" + queue + "\x01" + rise
		note  = zeros + "\x01" + "\x01" + zeros + "\x06" + "\x02" + "\x00\x05right"
		seen  = "\x00\x00\x00\x00\x00\x00\x01\x02" + eight + eight + eight + eight + eight + eight + eight + eight + eight + eight + eight + eight + eight + eight + eight
		none  = eight + "\x00"
		spent = none + zeros + "\x01" + "\x01" + none + none + none + none + none + none
	)
	want := shops + binds + "\x00\x00\x00" + byteOf(len(kept)) + kept + note + seen + spent
	if got := Bytes(s.Parts()); got != want {
		t.Errorf("%x, wanted %x", got, want)
	}
	written(t, "known", s, p, left)
}

// P24.1: of a store that has something of all there is; of stores of no exchange, binding, queue, note.
func TestRich(t *testing.T) {
	p := ladder(t)
	s := written(t, "rich", rich(t, p), p, left)
	x := s.Parts()
	if len(x.Book.Shops()) != 5 || len(x.Book.Binds()) != 5 || len(x.Stock.Queues()) != 2 || x.Notes.Total() != 4 || x.Seen[low] != 5 || x.Seen[high] != 1<<60 || x.Spent[1] != (store.Spent{Round: 1, Count: 1}) {
		t.Errorf("%+v", x)
	}
	for _, some := range [][]deed.Deed{
		{newShop("a", match.Fanout, "")},
		{newQueue("q", 1, 0, "")},
		{newShop("a", match.Fanout, ""), newShop("b", match.Topic, ""), bound(route.Bind{Shop: "a", To: "high", Up: true})},
		{newShop("r", route.Release, "right"), put(0, api.Mail{Shop: "r"})},
		{newQueue("q", 1, 0, ""), newShop("a", match.Fanout, ""), bound(route.Bind{Shop: "a", To: "q"}), put(0, api.Mail{Shop: "a"})},
		{{Kind: deed.Note, Text: strings.Repeat("t", 64)}},
		{{Kind: deed.Pull, From: low, Number: math.MaxUint64, Mail: api.Mail{Shop: "none"}}},
		{{Kind: deed.Wake, Tick: math.MaxUint64}},
	} {
		written(t, "some", done(t, store.New(p, left), some...), p, left)
	}
}

// full: a policy of 16 places, of which the first is above all others, with as many bytes as may be, and a store of the last place
// but one of as much as there may be of all.
func full(t *testing.T) (policy.Policy, store.Store, int) {
	t.Helper()
	p := policy.Policy{Work: 16, Give: 16}
	for n := range 16 {
		p.Places = append(p.Places, policy.Place{Name: "place-" + strconv.Itoa(n), Label: api.Label{Level: uint8(n)}, Bytes: 65536, Base: math.MaxUint64 - 511})
		p.Slots = append(p.Slots, n, n)
	}
	const place = 1
	p.Grants = []policy.Grant{{From: place, To: 0, Budget: 16}}
	for n := range 7 {
		p.Grants = append(p.Grants, policy.Grant{From: n + 2, To: place, Budget: 16})
	}
	if code := p.Check(); code != api.OK {
		t.Fatal(code)
	}
	s := store.New(p, place)
	for n := range 8 {
		s = done(t, s, newQueue("queue-"+strconv.Itoa(n), 64, math.MaxUint64, strings.Repeat("d", 16)))
	}
	for n := range 7 {
		s = done(t, s, newShop("sixteen-bytes-"+strconv.Itoa(n+10), uint8(n%4), ""))
	}
	s = done(t, s, newShop("release", route.Release, "place-0"))
	var want []api.Pair
	for n := range 8 {
		want = append(want, api.Pair{Key: "sixteen-bytes--" + strconv.Itoa(n), Kind: 1, Text: strings.Repeat("\xff", 64)})
	}
	for n := range 8 { // by the fanout to all queues, and up to 14 places; the others' bindings are as long as may be
		s = done(t, s, bound(route.Bind{Shop: "sixteen-bytes-11", To: "queue-" + strconv.Itoa(n)}))
	}
	for n := range 14 {
		s = done(t, s, bound(route.Bind{Shop: "sixteen-bytes-11", To: "place-" + strconv.Itoa(n+2), Up: true, Key: "k", All: true}))
	}
	for n := range 10 {
		s = done(t, s, bound(route.Bind{Shop: "sixteen-bytes-13", To: "queue-0", Key: strings.Repeat("k", 62) + "." + strconv.Itoa(n), Want: want}))
	}
	for range 64 {
		s = done(t, s, put(0, api.Mail{Shop: "sixteen-bytes-11"}))
	}
	for range 16 {
		s = done(t, s, put(0, api.Mail{Shop: "release"}))
	}
	for range 32 {
		s = done(t, s, deed.Deed{Kind: deed.Lend, Name: "queue-7"}, deed.Deed{Kind: deed.Note, Tick: math.MaxUint64, Code: 255, Text: strings.Repeat("t", 64)})
	}
	return p, s, place
}

// P24.1: of the most there may be.
func TestFull(t *testing.T) {
	p, s, place := full(t)
	x := s.Parts()
	if len(x.Book.Binds()) != 32 || len(x.Book.Shops()) != 8 || len(x.Stock.Queues()) != 8 || len(x.Notes.All()) != 32 || x.Stock.Next() != 0 || x.Spent[0].Count != 16 {
		t.Fatalf("%d, %d, %d, next %d", len(x.Book.Binds()), len(x.Book.Shops()), len(x.Stock.Queues()), x.Stock.Next())
	}
	for n := range 8 {
		if x.Stock.Line("queue-"+strconv.Itoa(n)).Len() != 64 {
			t.Fatal("not full")
		}
	}
	s = written(t, "full", s, p, place)
	all := Bytes(s.Parts())
	for _, cut := range []int{1, 2, 9, 73, 200, 210, len(all) / 2, len(all) - 1} {
		refuses(t, "cut", all[:len(all)-cut], p, place)
	}
	q := of(x)
	more := q.clone()
	more.shops = append(more.shops, route.Shop{Name: "one-more"})
	refuses(t, "nine exchanges", more.bytes(), p, place)
	more = q.clone()
	more.binds = append(more.binds, route.Bind{Shop: "sixteen-bytes-11", To: "queue-7", Key: "more"})
	refuses(t, "33 bindings", more.bytes(), p, place)
	more = q.clone()
	more.piles = append(more.piles, pile{queue: stock.Queue{Name: "one-more", Most: 1}})
	refuses(t, "nine queues", more.bytes(), p, place)
	p.Places[place].Bytes = q.size()
	reads(t, "no room", all, p, place)
	p.Places[place].Bytes--
	refuses(t, "too many bytes", all, p, place)
}

// P24.1: messages as long as may be.
func TestLongest(t *testing.T) {
	p := ladder(t)
	p.Places[left].Bytes = 65536
	var h []api.Pair
	for n := range 8 {
		h = append(h, api.Pair{Key: "sixteen-bytes--" + strconv.Itoa(n), Kind: 1, Text: strings.Repeat("\x00", 64)})
	}
	s := done(t, store.New(p, left), newQueue("q", 64, 0, ""), newShop("a", match.Fanout, ""), bound(route.Bind{Shop: "a", To: "q"}), bound(route.Bind{Shop: "a", To: "high", Up: true}))
	m := api.Mail{Shop: "a", Key: strings.Repeat("k", 64), Head: h, Body: strings.Repeat("\xff", 256), Due: math.MaxUint64, Hops: 4}
	for range 64 {
		more, _, code := s.Do(put(0, m))
		if code == api.ErrFull {
			break
		}
		s = more
	}
	if s.Parts().Stock.Room() > 2*mail.Size(m) {
		t.Errorf("room for %d", s.Parts().Stock.Room())
	}
	written(t, "longest", s, p, left)
}

// P24.1: bytes that end at each place, and bytes of one more, and of more.
func TestReadShort(t *testing.T) {
	p := ladder(t)
	for place, s := range []store.Store{store.New(p, low), rich(t, p)} {
		all := Bytes(s.Parts())
		for length := range len(all) {
			refuses(t, "short", all[:length], p, place)
		}
		for _, more := range []string{"\x00", "\x01", "\xff", "\x00\x00", all, strings.Repeat("\x00", 70000)} {
			refuses(t, "longer", all+more, p, place)
		}
	}
	refuses(t, "nothing", "", p, low)
	refuses(t, "any", strings.Repeat("\xff", 3000), p, low)
	refuses(t, "any", strings.Repeat("\x00", 224), p, low)
	reads(t, "an ID of 0", strings.Repeat("\x00", 5)+"\x0a"+strings.Repeat("\x00", 219), p, low)
}

// P24.1: each byte turned, and each left out, or there twice: whether that may be is as the document's words have it.
func TestReadTurned(t *testing.T) {
	p := ladder(t)
	all := Bytes(rich(t, p).Parts())
	ok, wrong := 0, 0
	for at := range len(all) {
		turned := []string{all[:at] + all[at+1:], all[:at+1] + all[at:]}
		for _, by := range []byte{1, 2, 3, 4, 8, 16, 32, 64, 128, 255} {
			turned = append(turned, all[:at]+string([]byte{all[at] ^ by})+all[at+1:])
		}
		for _, s := range turned {
			if s != all && decides(t, "turned at "+strconv.Itoa(at), s, p, left) {
				ok++
			} else {
				wrong++
			}
		}
	}
	if ok < 1000 || wrong < 1000 {
		t.Errorf("%d may be, %d may not", ok, wrong)
	}
}

// P24.1: bytes turned by chance, several at a time, pieces left out, moved, and there twice.
func TestReadThrown(t *testing.T) {
	p := ladder(t)
	r := rand.New(rand.NewSource(1))
	for n := range 4000 {
		s := []byte(Bytes(one(r, rich(t, p), store.New(p, left)).Parts()))
		for range 1 + r.Intn(3) {
			from := r.Intn(len(s))
			to := from + r.Intn(min(20, len(s)-from)+1)
			switch r.Intn(4) {
			case 0:
				s[from] = byte(r.Intn(256))
			case 1:
				s[from] = byte(r.Intn(4))
			case 2:
				s = slices.Delete(s, from, to)
			case 3:
				s = slices.Insert(s, r.Intn(len(s)), slices.Clone(s[from:to])...)
			}
			if len(s) == 0 {
				break
			}
		}
		decides(t, "thrown "+strconv.Itoa(n), string(s), p, left)
	}
}

// spoils: the bytes of what it is are read; as it is spoiled they aren't.
func spoils(t *testing.T, p policy.Policy, place int, x plain, how map[string]func(*plain)) {
	t.Helper()
	reads(t, "not spoiled", x.bytes(), p, place)
	for what, one := range how {
		spoiled := x.clone()
		one(&spoiled)
		if spoiled.bytes() == x.bytes() {
			t.Errorf("%s: nothing is spoiled", what)
		}
		refuses(t, what, spoiled.bytes(), p, place)
	}
}

// P24.1: exchanges that couldn't be made, or are there twice, wherever they stand.
func TestReadShops(t *testing.T) {
	p := ladder(t)
	x := of(rich(t, p).Parts())
	for at := range len(x.shops) {
		shop := func(name string, sort uint8, to string) func(*plain) {
			return func(x *plain) {
				was := x.shops[at].Name
				x.shops[at] = route.Shop{Name: name, Sort: sort, To: to}
				for n := range x.binds {
					if x.binds[n].Shop == was {
						x.binds[n].Shop = name
					}
				}
			}
		}
		spoils(t, p, left, x, map[string]func(*plain){
			"no name":           shop("", 1, ""),
			"a name too long":   shop(strings.Repeat("n", 17), 1, ""),
			"no word":           shop("N", 1, ""),
			"a sort above 4":    shop("n", 5, ""),
			"a To":              shop("n", 1, "right"),
			"no To":             shop("n", 4, ""),
			"no grant":          shop("n", 4, "high"),
			"no grant to it":    shop("n", 4, "left"),
			"none from there":   shop("n", 4, "low"),
			"no place":          shop("n", 4, "nowhere"),
			"a To too long":     shop("n", 4, strings.Repeat("n", 17)),
			"no word for a To":  shop("n", 4, "Right"),
			"there twice":       func(x *plain) { x.shops = append(x.shops, x.shops[at]) },
			"twice, side by it": func(x *plain) { x.shops = slices.Insert(x.shops, at, x.shops[at]) },
			"of that name": func(x *plain) {
				x.shops = append(x.shops, route.Shop{Name: x.shops[at].Name, Sort: 3 - x.shops[at].Sort%4})
			},
			"bindings from it": func(x *plain) {
				x.shops = append(slices.Delete(x.shops, at, at+1), route.Shop{Name: "x"})
				x.binds = append(x.binds, route.Bind{Shop: "none", To: "q"})
			},
		})
	}
	more := func(n int) func(*plain) {
		return func(x *plain) {
			for len(x.shops) < n {
				x.shops = append(x.shops, route.Shop{Name: "x" + strconv.Itoa(len(x.shops)), Sort: match.Topic})
			}
		}
	}
	eight := x.clone()
	more(8)(&eight)
	spoils(t, p, left, eight, map[string]func(*plain){"nine": more(9), "all of them": more(255)})
}

// P24.1: bindings that couldn't be made, or are there twice, wherever they stand.
func TestReadBinds(t *testing.T) {
	p := ladder(t)
	x := of(rich(t, p).Parts())
	for at := range len(x.binds) {
		bind := func(how func(*route.Bind)) func(*plain) { return func(x *plain) { how(&x.binds[at]) } }
		spoils(t, p, left, x, map[string]func(*plain){
			"no exchange":     bind(func(x *route.Bind) { x.Shop = "none" }),
			"no name":         bind(func(x *route.Bind) { x.Shop = "" }),
			"of a Release":    bind(func(x *route.Bind) { x.Shop, x.Key = "r", "" }),
			"a name too long": bind(func(x *route.Bind) { x.Shop = strings.Repeat("s", 17) }),
			"no queue":        bind(func(x *route.Bind) { x.To, x.Up = "none", false }),
			"to nothing":      bind(func(x *route.Bind) { x.To = "" }),
			"To too long":     bind(func(x *route.Bind) { x.To = strings.Repeat("q", 17) }),
			"up to a queue":   bind(func(x *route.Bind) { x.To, x.Up = "q", true }),
			"to a place":      bind(func(x *route.Bind) { x.To, x.Up = "high", false }),
			"up to nowhere":   bind(func(x *route.Bind) { x.To, x.Up = "nowhere", true }),
			"no flow there":   bind(func(x *route.Bind) { x.To, x.Up = "low", true }),
			"a grant there":   bind(func(x *route.Bind) { x.To, x.Up = "right", true }),
			"up to itself":    bind(func(x *route.Bind) { x.To, x.Up = "left", true }),
			"no key":          bind(func(x *route.Bind) { x.Key = "a..b" }),
			"a key too long":  bind(func(x *route.Bind) { x.Key = strings.Repeat("k", 65) }),
			"no pair":         bind(func(x *route.Bind) { x.Want = []api.Pair{{Key: "K"}} }),
			"no kind":         bind(func(x *route.Bind) { x.Want = []api.Pair{{Key: "k", Kind: 3}} }),
			"a key twice":     bind(func(x *route.Bind) { x.Want = []api.Pair{{Key: "k"}, {Key: "k"}} }),
			"nine pairs":      bind(func(x *route.Bind) { x.Want = make([]api.Pair, 9) }),
			"there twice":     func(x *plain) { x.binds = append(x.binds, x.binds[at]) },
			"side by it":      func(x *plain) { x.binds = slices.Insert(x.binds, at, x.binds[at]) },
			"its exchange gone": func(x *plain) {
				name := x.binds[at].Shop
				x.shops = slices.DeleteFunc(x.shops, func(x route.Shop) bool { return x.Name == name })
			},
		})
	}
	spoils(t, p, left, x, map[string]func(*plain){"a pattern of a Direct": func(x *plain) { x.binds[4].Key = "k.*" }})
	s, first := x.bytes(), x.binds[0]
	up := len(plain{shops: x.shops}.book() + text(first.Shop) + text(first.To)) // the book ends with how many bindings there are
	all := up + 1 + len(text(first.Key)+pairs(first.Want))
	for _, at := range []int{up, all} {
		for n := 2; n < 256; n++ {
			refuses(t, "neither 1 nor 0", s[:at]+byteOf(n)+s[at+1:], p, left)
		}
	}
	reads(t, "All", s[:all]+"\x01"+s[all+1:], p, left)
}

// P24.1: 32 bindings, and one more.
func TestReadManyBinds(t *testing.T) {
	p := ladder(t)
	x := of(rich(t, p).Parts())
	more := func(n int) func(*plain) {
		return func(x *plain) {
			for len(x.binds) < n {
				x.binds = append(x.binds, route.Bind{Shop: "f", To: "u", Key: "k" + strconv.Itoa(len(x.binds))})
			}
		}
	}
	full := x.clone()
	more(32)(&full)
	spoils(t, p, left, full, map[string]func(*plain){"33": more(33), "all of them": more(255)})
}

// P24.1: a stock that may not be, or whose queues couldn't be made.
func TestReadStock(t *testing.T) {
	p := ladder(t)
	x := of(rich(t, p).Parts())
	if len(x.piles[0].items) < 2 || len(x.climbs) != 2 {
		t.Fatalf("%+v", x)
	}
	queue := func(at int, q stock.Queue) func(*plain) { return func(x *plain) { x.piles[at].queue = q } }
	spoils(t, p, left, x, map[string]func(*plain){
		"no name":          queue(0, stock.Queue{Most: 5}),
		"no word":          queue(0, stock.Queue{Name: "Q", Most: 5}),
		"no messages":      queue(1, stock.Queue{Name: "u"}),
		"65 messages":      queue(1, stock.Queue{Name: "u", Most: 65}),
		"more than Most":   queue(0, stock.Queue{Name: "q", Most: 1}),
		"no word for Dead": queue(1, stock.Queue{Name: "u", Most: 64, Dead: "D"}),
		"there twice":      func(x *plain) { x.piles = append(x.piles, pile{queue: x.piles[0].queue}) },
		"of that name":     func(x *plain) { x.piles = append(x.piles, pile{queue: stock.Queue{Name: "u", Most: 1}}) },
		"a queue less":     func(x *plain) { x.piles = x.piles[:1] },
		"another name":     queue(1, stock.Queue{Name: "v", Most: 64}),
		"the next ID":      func(x *plain) { x.next = x.piles[0].items[0].Mail.ID },
		"IDs that fall": func(x *plain) {
			x.piles[0].items[0], x.piles[0].items[1] = x.piles[0].items[1], x.piles[0].items[0]
		},
		"one ID twice":        func(x *plain) { x.piles[0].items[1].Mail.ID = x.piles[0].items[0].Mail.ID },
		"a message":           func(x *plain) { x.piles[0].items[0].Mail.Shop = "" },
		"five Hops":           func(x *plain) { x.piles[0].items[0].Mail.Hops = 5 },
		"a message, too long": func(x *plain) { x.piles[0].items[0].Mail.Body = strings.Repeat("b", 257) },
		"no place 16":         func(x *plain) { x.climbs[1].place = 16 },
		"places that fall":    func(x *plain) { x.climbs[0], x.climbs[1] = x.climbs[1], x.climbs[0] },
		"a place twice":       func(x *plain) { x.climbs[1].place = x.climbs[0].place },
		"fewer came":          func(x *plain) { x.climbs[0].total = 0 },
		"more came":           func(x *plain) { x.climbs[0].total++ },
		"nothing came":        func(x *plain) { x.climbs = append(x.climbs, climb{place: 9}) },
		"17 are kept": func(x *plain) {
			x.climbs[0] = climb{x.climbs[0].place, 17, slices.Repeat([]api.Mail{{Shop: "a"}}, 17)}
		},
	})
	lent := x.clone()
	lent.piles[0].items[0].Lent = !lent.piles[0].items[0].Lent
	reads(t, "lent", lent.bytes(), p, left)
	ended := x.clone()
	ended.next = 0
	ended.piles[0].items[1].Mail.ID = math.MaxUint64
	ended.piles[0].items = ended.piles[0].items[:2]
	reads(t, "no more IDs", ended.bytes(), p, left)
}

// P24.1: as many bytes of messages as the place may have, one less, and one more.
func TestReadRoom(t *testing.T) {
	p := ladder(t)
	s := rich(t, p)
	all, size := Bytes(s.Parts()), s.Parts().Stock.Size()
	for _, bytes := range []int{0, 1, size - 1, size, size + 1, 65536} {
		p.Places[left].Bytes = bytes
		if bytes < size {
			refuses(t, "too many bytes", all, p, left)
			continue
		}
		reads(t, "room", all, p, left)
	}
}

// P24.1: the length of the stock is that of its bytes.
func TestReadLength(t *testing.T) {
	p := ladder(t)
	x := of(rich(t, p).Parts())
	all := long(x.stock())
	for _, n := range []int{0, 1, 9, len(all) - 5, len(all) - 3, len(all) + 100, 1 << 16, 1<<31 - 1, 1 << 31, 1<<32 - 1} {
		wrong := string([]byte{byte(n >> 24), byte(n >> 16), byte(n >> 8), byte(n)}) + all[4:]
		refuses(t, "a length of "+strconv.Itoa(n), x.book()+wrong+x.rest(), p, left)
	}
	refuses(t, "a byte more in it", x.book()+long(x.stock()+"\x00")+x.rest(), p, left)
	refuses(t, "a byte less in it", x.book()+long(x.stock()[1:])+x.rest(), p, left)
	refuses(t, "none", x.book()+long("")+x.rest(), p, left)
}

// P24.1: notes that may not be.
func TestReadNotes(t *testing.T) {
	p := ladder(t)
	x := of(rich(t, p).Parts())
	many := x.clone()
	for len(many.notes) < 32 {
		many.notes = append(many.notes, notes.Note{Tick: uint64(len(many.notes)), Kind: 200, Text: strings.Repeat("t", len(many.notes))})
	}
	for _, told := range []uint64{32, 33, 1 << 40, math.MaxUint64} {
		many.told = told
		spoils(t, p, left, many, map[string]func(*plain){
			"31":       func(x *plain) { x.notes = x.notes[:31] },
			"none":     func(x *plain) { x.notes = nil },
			"33":       func(x *plain) { x.notes = append(x.notes, notes.Note{}) },
			"fewer":    func(x *plain) { x.told = 31 },
			"too long": func(x *plain) { x.notes[5].Text = strings.Repeat("t", 65) },
		})
	}
	spoils(t, p, left, x, map[string]func(*plain){
		"one more came": func(x *plain) { x.told++ },
		"one less came": func(x *plain) { x.told-- },
		"none came":     func(x *plain) { x.told = 0 },
		"one less":      func(x *plain) { x.notes = x.notes[1:] },
	})
}

// P24.1: each Count is at most 16, whatever was granted; whatever was Seen, and of whatever Round.
func TestReadCounts(t *testing.T) {
	p := ladder(t)
	x := of(rich(t, p).Parts())
	for at := range 8 {
		for n := range 256 {
			more := x.clone()
			more.spent[at] = store.Spent{Round: math.MaxUint64 - uint64(n), Count: n}
			if n > 16 {
				refuses(t, "a Count of "+strconv.Itoa(n), more.bytes(), p, left)
				continue
			}
			if got := reads(t, "a Count", more.bytes(), p, left).Spent[at]; got != more.spent[at] {
				t.Errorf("%+v", got)
			}
		}
	}
	for at := range 16 {
		for _, n := range []uint64{0, 1, 255, 1 << 63, math.MaxUint64} {
			more := x.clone()
			more.seen[at] = n
			if got := reads(t, "Seen", more.bytes(), p, left).Seen; got != more.seen {
				t.Errorf("%v", got)
			}
		}
	}
}

// P24.1: a text of another place, or of another policy: where that has no such place, grant, or flow.
func TestReadOther(t *testing.T) {
	p := ladder(t)
	all := Bytes(rich(t, p).Parts())
	for place, want := range []bool{false, true, false, false} {
		if decides(t, "another place", all, p, place) != want {
			t.Errorf("%d", place)
		}
	}
	blank := Bytes(store.New(p, low).Parts())
	for place := range 4 {
		reads(t, "of all places", blank, p, place)
	}
	other := ladder(t)
	other.Places[high].Name = "top"
	refuses(t, "no such place", all, other, left)
	other = ladder(t)
	other.Places[right].Name = "east"
	refuses(t, "no such place to release to", all, other, left)
	other = ladder(t)
	other.Grants = slices.Delete(other.Grants, 1, 2)
	refuses(t, "no such grant", all, other, left)
	other = ladder(t)
	other.Places[high].Label = api.Label{Level: 2, Set: 2}
	if code := other.Check(); code != api.OK {
		t.Fatal(code)
	}
	refuses(t, "no such flow", all, other, left)
	other = ladder(t)
	other.Grants[1].Budget, other.Places[left].Base, other.Work = 0, 7, 1
	reads(t, "another Budget", all, other, left)
	for _, place := range []int{-1, 4, 16, math.MinInt, math.MaxInt} {
		refuses(t, "no place", all, p, place)
		refuses(t, "no place", blank, p, place)
	}
}

// P24.2: over rows of deeds of all kinds: a store is written and read again at any time, and all deeds are answered as by the
// one that was never written.
func TestRows(t *testing.T) {
	codes := map[api.Errno]int{}
	for seed := range int64(24) {
		r := rand.New(rand.NewSource(seed))
		p, place := ladder(t), int(seed%4)
		p.Places[place].Bytes = []int{500, 2000, 65536}[seed/4%3]
		if seed%7 == 0 {
			p.Places[place].Base = math.MaxUint64 - 20
		}
		kept := store.New(p, place)
		again, tick := kept, uint64(0)
		for range 200 {
			tick += uint64(r.Intn(3)) / 2
			d := thrown(r, kept, tick)
			more, result, code := kept.Do(d)
			other, otherResult, otherCode := again.Do(d)
			codes[code]++
			if code != otherCode || !same(result, otherResult) || !store.Same(more.Parts(), other.Parts()) {
				t.Fatalf("%+v: %+v, %d, wanted %+v, %d", d, otherResult, otherCode, result, code)
			}
			kept, again = more, other
			if r.Intn(3) == 0 {
				again = written(t, "row "+strconv.FormatInt(seed, 10), again, p, place)
			}
		}
		written(t, "kept", kept, p, place)
	}
	for _, code := range []api.Errno{api.OK, api.ErrNone, api.ErrFlow, api.ErrThere, api.ErrFull, api.ErrGrant, api.ErrOrder, api.ErrEmpty, api.ErrKind} {
		if codes[code] == 0 {
			t.Errorf("no row comes to the error %d", code)
		}
	}
}

// same: do two results tell the same?
func same(a, b store.Result) bool {
	return a.Count == b.Count && a.Lost == b.Lost && a.Item.Lent == b.Item.Lent && a.Item.Again == b.Item.Again && mail.Same(a.Item.Mail, b.Item.Mail)
}

// Memory: what is read shares nothing with the policy, and what its parts tell may be written over.
func TestWrittenOver(t *testing.T) {
	p := ladder(t)
	all := Bytes(rich(t, p).Parts())
	x := reads(t, "read", all, p, left)
	other := reads(t, "read", all, p, left)
	for at := range p.Places {
		p.Places[at] = policy.Place{}
	}
	clear(p.Slots)
	clear(p.Grants)
	for _, one := range x.Book.Binds() {
		clear(one.Want)
	}
	for _, q := range x.Stock.Queues() {
		for _, one := range x.Stock.Line(q.Name).All() {
			clear(one.Mail.Head)
		}
	}
	clear(x.Notes.All())
	clear(x.Stock.Rise(high).All())
	x.Seen[low], x.Spent[1] = 0, store.Spent{}
	if Bytes(other) != all || of(other).bytes() != all {
		t.Error("written over")
	}
	x.Seen, x.Spent = other.Seen, other.Spent
	if Bytes(x) != all {
		t.Error("its own parts written over")
	}
}

// P24.1: what may not be of a head, or a message, is told by layers 9 and 13 alone: their bytes are those of here.
func TestPlain(t *testing.T) {
	h := []api.Pair{{Key: "a", Num: -1}, {Key: "b", Kind: 1, Text: "x"}, {Key: "c", Kind: 2, Num: 1}}
	m := api.Mail{ID: 3, Shop: "s", Key: "k", Head: h, Body: "b", Due: 4, Hops: 1}
	wantHead, _ := head.Bytes(h)
	wantMail, _ := mail.Bytes(m)
	if pairs(h) != wantHead || letter(m) != wantMail {
		t.Errorf("%x, %x", pairs(h), letter(m))
	}
	if l, code := line.Of([]line.Item{{Mail: m}}); code != api.OK || l.Size() != len(letter(m)) {
		t.Errorf("%d", code)
	}
}
