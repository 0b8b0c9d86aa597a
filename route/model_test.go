package route

import (
	"math/rand"
	"reflect"
	"slices"
	"strconv"
	"testing"

	"stairwell/api"
	"stairwell/match"
	"stairwell/words"
)

// plain is a book as the document's words have it: what it has, in order.
type plain struct {
	shops []Shop
	binds []Bind
}

// clone: a plain book that shares no list with the other one.
func (p plain) clone() plain { return plain{slices.Clone(p.shops), slices.Clone(p.binds)} }

// find: at which of its exchanges that name is; -1.
func (p plain) find(name string) int {
	return slices.IndexFunc(p.shops, func(x Shop) bool { return x.Name == name })
}

// bound: at which of its bindings that is; -1.
func (p plain) bound(x Bind) int {
	return slices.IndexFunc(p.binds, func(y Bind) bool { return sameBinds([]Bind{x}, []Bind{y}) })
}

func (p *plain) make(x Shop) api.Errno {
	if slices.Contains(p.shops, x) {
		return api.OK
	}
	if code := words.Name(x.Name); code != api.OK {
		return code
	}
	if x.Sort > 4 {
		return api.ErrKind
	}
	if code := words.Name(x.To); x.Sort == 4 && code != api.OK {
		return code
	}
	if x.Sort < 4 && x.To != "" {
		return api.ErrForm
	}
	if p.find(x.Name) >= 0 {
		return api.ErrThere
	}
	if len(p.shops) == 8 {
		return api.ErrFull
	}
	p.shops = append(p.shops, x)
	return api.OK
}

func (p *plain) drop(name string) api.Errno {
	at := p.find(name)
	if at < 0 {
		return api.ErrNone
	}
	p.shops = slices.Delete(p.shops, at, at+1)
	p.binds = slices.DeleteFunc(p.binds, func(x Bind) bool { return x.Shop == name })
	return api.OK
}

func (p *plain) bind(x Bind) api.Errno {
	if p.bound(x) >= 0 {
		return api.OK
	}
	at := p.find(x.Shop)
	if at < 0 {
		return api.ErrNone
	}
	sort := p.shops[at].Sort
	if sort == 4 {
		return api.ErrKind
	}
	if code := words.Name(x.To); code != api.OK {
		return code
	}
	if code := (match.Rule{Sort: sort, Key: x.Key, Want: x.Want, All: x.All}).Check(); code != api.OK {
		return code
	}
	if len(p.binds) == 32 {
		return api.ErrFull
	}
	p.binds = append(p.binds, x)
	return api.OK
}

func (p *plain) unbind(x Bind) api.Errno {
	at := p.bound(x)
	if at < 0 {
		return api.ErrNone
	}
	p.binds = slices.Delete(p.binds, at, at+1)
	return api.OK
}

func (p *plain) forget(queue string) {
	p.binds = slices.DeleteFunc(p.binds, func(x Bind) bool { return !x.Up && x.To == queue })
}

func (p plain) leads(shop, key string, h []api.Pair) (queues, places []string, code api.Errno) {
	at := p.find(shop)
	if at < 0 {
		return nil, nil, api.ErrNone
	}
	if p.shops[at].Sort == 4 {
		return nil, []string{p.shops[at].To}, api.OK
	}
	for _, x := range p.binds {
		goes := match.Rule{Sort: p.shops[at].Sort, Key: x.Key, Want: x.Want, All: x.All}.Goes(key, h)
		switch {
		case x.Shop != shop || !goes:
		case x.Up && !slices.Contains(places, x.To):
			places = append(places, x.To)
		case !x.Up && !slices.Contains(queues, x.To):
			queues = append(queues, x.To)
		}
	}
	return queues, places, api.OK
}

// dice throws what is asked of books: the same throws in each run.
type dice struct{ *rand.Rand }

func (d dice) one(l ...string) string { return l[d.Intn(len(l))] }

func (d dice) shop() Shop {
	x := Shop{Name: d.one("a", "b", "c", "d", "e", "f", "g", "h", "i", "j", "", "A"), Sort: uint8(d.Intn(6))}
	if x.Sort == Release || d.Intn(20) == 0 {
		x.To = d.one("low", "high", "q0", "", "A")
	}
	return x
}

func (d dice) head() []api.Pair {
	if d.Intn(10) == 0 {
		return keyed(8 + d.Intn(2))
	}
	return [][]api.Pair{nil, {}, {pair("a", 0, 1, "")}, {pair("a", 0, 1, ""), pair("b", 2, 1, "")}, {pair("b", 2, 1, ""), pair("a", 0, 1, "")}}[d.Intn(5)]
}

func (d dice) bind() Bind {
	return Bind{
		Shop: d.one("a", "b", "c", "d", "e", "f", "g", "h", "i", "j"), To: d.one("q0", "q1", "q2", "low", "high", "q0", "q1", ""), Up: d.Intn(3) == 0,
		Key: d.one("", "a", "a.b", "a", "#", "a.*", "A"), Want: d.head(), All: d.Intn(2) == 0,
	}
}

// sharedly: the same binding, with a Want that will be written over.
func sharedly(x Bind) (Bind, func()) {
	x.Want = append(slices.Clone(x.Want), pair("spare", 0, 0, ""))[:len(x.Want)]
	return x, func() {
		for at := range x.Want {
			x.Want[at] = pair("over", 0, 9, "")
		}
	}
}

// step: a book, and the plain one, when something was asked of both, and what both answered.
func (d dice) step(b Book, p plain) (Book, plain, [2]api.Errno) {
	p = p.clone()
	var got, want api.Errno
	switch d.Intn(12) {
	case 0, 1, 2:
		x := d.shop()
		b, got = b.Make(x)
		want = p.make(x)
	case 3:
		if d.Intn(3) == 0 {
			name := d.bind().Shop
			b, got = b.Drop(name)
			want = p.drop(name)
		}
	case 4:
		if d.Intn(8) == 0 {
			queue := d.bind().To
			b = b.Forget(queue)
			p.forget(queue)
		}
	case 5, 6:
		x := d.bind()
		if len(p.binds) > 0 && d.Intn(2) == 0 {
			x = p.binds[d.Intn(len(p.binds))]
		}
		b, got = b.Unbind(x)
		want = p.unbind(x)
	default:
		x := d.bind()
		handed, over := sharedly(x)
		b, got = b.Bind(handed)
		over()
		want = p.bind(x)
	}
	return b, p, [2]api.Errno{got, want}
}

// agree: do both books tell the same?
func agree(t *testing.T, d dice, b Book, p plain) {
	t.Helper()
	if got := b.Shops(); !slices.Equal(got, p.shops) {
		t.Fatalf("exchanges %#v, wanted %#v", got, p.shops)
	}
	if got := b.Binds(); !sameBinds(got, p.binds) {
		t.Fatalf("bindings %#v, wanted %#v", got, p.binds)
	}
	shop, key, h := d.bind().Shop, d.one("", "a", "a.b", "b"), d.head()
	queues, places, code := b.Leads(shop, key, h)
	wantQueues, wantPlaces, want := p.leads(shop, key, h)
	if !slices.Equal(queues, wantQueues) || !slices.Equal(places, wantPlaces) || code != want {
		t.Fatalf("%q, %q, %#v: %q, %q, %d, wanted %q, %q, %d", shop, key, h, queues, places, code, wantQueues, wantPlaces, want)
	}
}

// P14.1 to P14.3: long rows of calls, held against the document's words; each book that was left behind is at the end as it
// was, though others were made of it.
func TestRows(t *testing.T) {
	seen := map[api.Errno]int{}
	for seed := range int64(60) {
		d := dice{rand.New(rand.NewSource(seed))}
		books, plains := []Book{{}}, []plain{{}}
		for range 300 {
			at := len(books) - 1
			if d.Intn(10) == 0 {
				at = d.Intn(len(books))
			}
			b, p, codes := d.step(books[at], plains[at])
			if codes[0] != codes[1] {
				t.Fatalf("row %d: %d, wanted %d", seed, codes[0], codes[1])
			}
			seen[codes[0]]++
			agree(t, d, b, p)
			books, plains = append(books, b), append(plains, p)
		}
		for at := range books {
			agree(t, d, books[at], plains[at])
			other := d.Intn(len(books))
			same := slices.Equal(plains[at].shops, plains[other].shops) && sameBinds(plains[at].binds, plains[other].binds)
			if got := Same(books[at], books[other]); got != same {
				t.Fatalf("row %d, books %d and %d: %v", seed, at, other, got)
			}
		}
	}
	for _, code := range []api.Errno{api.OK, api.ErrEmpty, api.ErrForm, api.ErrKind, api.ErrMany, api.ErrThere, api.ErrNone, api.ErrFull} {
		if seen[code] == 0 {
			t.Errorf("no row comes to the error %d", code)
		}
	}
}

// P14.1, P14.2: of one book two others are made, each with one more: none has the other's, however much room there is.
func TestBookStays(t *testing.T) {
	for n := range 8 {
		was := made(t, shops(n)...)
		one, _ := was.Make(Shop{"one", 0, ""})
		other, _ := was.Make(Shop{"other", 0, ""})
		tells(t, was, shops(n)...)
		tells(t, one, append(shops(n), Shop{"one", 0, ""})...)
		tells(t, other, append(shops(n), Shop{"other", 0, ""})...)
	}
	for n := range 32 {
		l := append(shops(1), binds("s0", n)...)
		x, y := Bind{Shop: "s0", To: "x", Want: keyed(1)}, Bind{Shop: "s0", To: "y", Want: keyed(2)}
		was := made(t, l...)
		one, _ := was.Bind(x)
		other, _ := was.Bind(y)
		tells(t, was, l...)
		tells(t, one, append(slices.Clone(l), x)...)
		tells(t, other, append(slices.Clone(l), y)...)

		less := one.Forget("x")
		more, _ := less.Bind(y)
		tells(t, one, append(slices.Clone(l), x)...)
		tells(t, less, l...)
		tells(t, more, append(slices.Clone(l), y)...)
	}
	l := append(shops(3), binds("s1", 5)...)
	was := made(t, l...)
	for _, name := range []string{"s0", "s1", "s2"} {
		less, _ := was.Drop(name)
		less.Make(Shop{"new", 0, ""})
		tells(t, was, l...)
	}
}

// Memory: what is handed in is neither changed nor kept, and an answer is new memory.
func TestMemory(t *testing.T) {
	want := append(keyed(8), pair("spare", 0, 0, ""))
	was := slices.Clone(want)
	x := Bind{Shop: "h", To: "q", Want: want[:4], All: true}
	parts := []any{Shop{"h", match.Heads, ""}, Bind{Shop: "h", To: "q", Want: keyed(4), All: true}}
	b, _ := Book{}.Make(Shop{"h", match.Heads, ""})
	b, _ = b.Bind(x)
	b.Bind(x)
	b.Unbind(x)
	b.Unbind(Bind{Shop: "h", To: "q", Want: want})
	b.Leads("h", "", want[:8])
	if !slices.Equal(want, was) {
		t.Errorf("%#v, wanted %#v", want, was)
	}
	for at := range want {
		want[at] = pair("over", 0, 9, "")
	}
	tells(t, b, parts...)

	told := b.Binds()
	told[0].Want[0] = pair("over", 0, 9, "")
	told[0].Want = append(told[0].Want, pair("more", 0, 0, ""))
	told[0].To = "over"
	b.Shops()[0].Name = "over"
	tells(t, b, parts...)
	leads(t, b, "h", "", keyed(4), "q", "")
}

// Memory: no two lists that are told share anything.
func TestMemoryOfLists(t *testing.T) {
	l := append(shops(2), binds("s0", 3)...)
	for n := range 3 {
		l = append(l, Bind{Shop: "s1", To: "p" + strconv.Itoa(n), Up: true, Want: keyed(n)}, Bind{Shop: "s1", To: "p" + strconv.Itoa(n), Want: keyed(n)})
	}
	b := made(t, l...)
	first, second := b.Binds(), b.Binds()
	for at := range first {
		for n := range first[at].Want {
			first[at].Want[n] = api.Pair{}
		}
		first[at].Want = append(first[at].Want, api.Pair{})
	}
	if !reflect.DeepEqual(second, b.Binds()) {
		t.Errorf("%#v, wanted %#v", second, b.Binds())
	}
	queues, places, _ := b.Leads("s1", "", nil)
	for at := range queues {
		queues[at], places[at] = "over", "over"
	}
	leads(t, b, "s1", "", nil, "p0 p1 p2", "p0 p1 p2")
	one, other := b.Shops(), b.Shops()
	one[0].Name = "over"
	_ = append(one[:1], Shop{})
	if !slices.Equal(other, b.Shops()) || other[0].Name != "s0" {
		t.Errorf("%#v", other)
	}
}
