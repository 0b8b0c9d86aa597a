package draft

import (
	"math/rand"
	"slices"
	"strconv"
	"strings"
	"testing"

	"stairwell/api"
	"stairwell/deed"
	"stairwell/route"
	"stairwell/stock"
)

// P26.1: Life, of the document's examples, of 0, and at the last ticks.
func TestLife(t *testing.T) {
	for _, x := range []struct{ tick, life, want uint64 }{
		{3, 4, 7}, {most, 1, 0}, {0, 0, 0}, {0, 1, 1}, {1, 0, 0}, {most, 0, 0}, {most - 1, 1, most}, {most - 1, 2, 0}, {1, most - 1, most},
		{0, most, most}, {1, most, 0}, {most, most, 0}, {1 << 63, 1 << 63, 0}, {1<<63 - 1, 1 << 63, most}, {1 << 63, 1<<63 - 1, most}, {7, 0, 0},
	} {
		if got := Life(x.tick, x.life); got != x.want {
			t.Errorf("%d, %d: %d, wanted %d", x.tick, x.life, got, x.want)
		}
	}
}

// P26.1: Life of many ticks and lives, held against their sum without a bound.
func TestLives(t *testing.T) {
	r := rand.New(rand.NewSource(26))
	for range 100000 {
		tick := r.Uint64() >> r.Intn(64)
		life := one(r, r.Uint64()>>r.Intn(64), most-tick, most-tick+1, most-tick-1, tick)
		want := together(tick, life)
		if life == 0 {
			want = 0
		}
		if got := Life(tick, life); got != want {
			t.Fatalf("%d, %d: %d, wanted %d", tick, life, got, want)
		}
	}
}

// Objects and values: the zero draft has none.
func TestZero(t *testing.T) {
	var x Draft
	if x.Len() != 0 || len(x.At(0)) != 0 || len(x.At(most)) != 0 || x.Settles("q", 1) || x.Settles("", 0) {
		t.Errorf("%d, %+v", x.Len(), x.At(0))
	}
	twin{}.with(t)
	same, code := x.Add()
	if code != api.OK || same.Len() != 0 {
		t.Errorf("%d, %d", same.Len(), code)
	}
}

// P26.1, P26.2: Puts and Settles, one by one and several at once, asked at several ticks.
func TestAdd(t *testing.T) {
	h := []api.Pair{{Key: "n", Num: -1}, {Key: "t", Kind: 1, Text: "x"}, {Key: "y", Kind: 2, Num: 1}}
	l := []deed.Deed{
		put("one", 0), settle("q", 1, 0), put("two", 5), settle("u", 1, 1), settle("q", 2, 2),
		{Kind: deed.Put, Tick: 9, Mail: api.Mail{ID: 3, Shop: "b", Key: "k.l", Head: h, Body: strings.Repeat("b", 256), Due: most, Hops: 4}},
		{Kind: deed.Settle, Tick: most, Name: strings.Repeat("n", 16), ID: most, How: 1}, settle("q", 0, 0), put("one", 0),
	}
	var w twin
	for _, d := range l {
		w = w.with(t, d)
	}
	twin{}.with(t, l...)
	twin{}.with(t, l[:3]...).with(t).with(t, l[3:4]...).with(t, l[4:]...)
	got := w.x.At(7)
	for at, want := range []uint64{0, 0, 12, 0, 0, 0, 0, 0, 0} {
		if got[at].Tick != 7 || got[at].Mail.Due != want {
			t.Errorf("%d: %+v", at, got[at])
		}
	}
	if got := w.x.At(0)[5]; got.Tick != 0 || got.Mail.Due != most {
		t.Errorf("%+v", got)
	}
	if !w.x.Settles(strings.Repeat("n", 16), most) || !w.x.Settles("q", 0) || w.x.Settles("b", 3) || w.x.Len() != 9 {
		t.Errorf("%d", w.x.Len())
	}
}

// P26.2: a Put's Due is Life of that tick, at each tick, of a life of 0, and of lives that reach the last tick, and beyond.
func TestAt(t *testing.T) {
	for _, life := range []uint64{0, 1, 2, 7, 8, 1 << 63, most - 7, most - 1, most} {
		w := twin{}.with(t, put("b", life))
		for _, tick := range ticks {
			got := w.x.At(tick)
			if len(got) != 1 || got[0].Tick != tick || got[0].Mail.Due != Life(tick, life) {
				t.Errorf("%d at %d: %+v", life, tick, got)
			}
		}
	}
	late := deed.Deed{Kind: deed.Settle, Tick: 5, Name: "q", ID: 4}
	if got := (twin{}.with(t, late)).x.At(most); got[0].Mail.Due != 0 || got[0].Tick != most || got[0].ID != 4 {
		t.Errorf("%+v", got)
	}
}

// P26.1: 16 deeds, and one more: of Puts, of Settles, of both, one by one and at once.
func TestFull(t *testing.T) {
	both := func(n int) deed.Deed {
		if n%2 == 0 {
			return put(strconv.Itoa(n), uint64(n))
		}
		return settle("q", uint64(n), uint8(n%3))
	}
	for _, kind := range []func(int) deed.Deed{
		func(n int) deed.Deed { return put("b", 3) }, func(n int) deed.Deed { return settle("q", uint64(n), 0) }, both,
	} {
		var l []deed.Deed
		var w twin
		for n := range 16 {
			l = append(l, kind(n))
			w = w.with(t, kind(n))
		}
		whole := twin{}.with(t, l...)
		for _, full := range []twin{w, whole} {
			if full.x.Len() != 16 {
				t.Fatalf("%d", full.x.Len())
			}
			full.with(t)
			full.refuses(t, "a Put more", api.ErrFull, put("b", 0))
			full.refuses(t, "a Settle more", api.ErrFull, settle("q", 16, 0))
			full.refuses(t, "two more", api.ErrFull, kind(16), kind(17))
		}
		twin{}.refuses(t, "17 at once", api.ErrFull, append(l, kind(16))...)
		twin{}.refuses(t, "18 at once", api.ErrFull, append(l, kind(16), kind(17))...)
		twin{}.with(t, l[:15]...).refuses(t, "two behind 15", api.ErrFull, kind(15), kind(16))
		twin{}.with(t, l[:15]...).with(t, kind(15))
		twin{}.with(t, l[:1]...).refuses(t, "16 behind one", api.ErrFull, append(slices.Clone(l[1:]), kind(16))...)
	}
}

// P26.1: of deeds that are neither Puts nor Settles ErrKind, whether they may be or not.
func TestKinds(t *testing.T) {
	w := twin{}.with(t, put("b", 1), settle("q", 1, 0))
	for _, d := range others() {
		if code := d.Check(); code != api.OK {
			t.Fatalf("%+v: %d", d, code)
		}
		w.refuses(t, "another kind", api.ErrKind, d)
		twin{}.refuses(t, "another kind, at first", api.ErrKind, d)
		w.refuses(t, "behind another", api.ErrKind, put("b", 1), d)
		w.refuses(t, "ahead of another", api.ErrKind, d, put("b", 1))
		d.Name, d.ID, d.Mail, d.Text = "NO NAME", 7, api.Mail{Hops: 9}, strings.Repeat("t", 65)
		w.refuses(t, "another kind that may not be", api.ErrKind, d)
	}
	for kind := 13; kind < 256; kind++ {
		w.refuses(t, "no kind", api.ErrKind, deed.Deed{Kind: uint8(kind)})
	}
}

// P26.1: of deeds that may not be layer 22's error.
func TestChecks(t *testing.T) {
	w := twin{}.with(t, put("b", 1), settle("q", 1, 0))
	of := func(how func(*deed.Deed), d deed.Deed) deed.Deed {
		how(&d)
		return d
	}
	for _, x := range []struct {
		what string
		want api.Errno
		d    deed.Deed
	}{
		{"a Put of a name", api.ErrForm, of(func(d *deed.Deed) { d.Name = "q" }, put("b", 1))},
		{"a Put of an ID", api.ErrForm, of(func(d *deed.Deed) { d.ID = 1 }, put("b", 1))},
		{"a Put of a Code", api.ErrForm, of(func(d *deed.Deed) { d.Code = 1 }, put("b", 1))},
		{"a Put of a From", api.ErrForm, of(func(d *deed.Deed) { d.From = 1 }, put("b", 1))},
		{"a Put of a Number", api.ErrForm, of(func(d *deed.Deed) { d.Number = 1 }, put("b", 1))},
		{"a Put of a Text", api.ErrForm, of(func(d *deed.Deed) { d.Text = "t" }, put("b", 1))},
		{"a Put of an exchange", api.ErrForm, of(func(d *deed.Deed) { d.Shop = route.Shop{Name: "a"} }, put("b", 1))},
		{"a Put of a queue", api.ErrForm, of(func(d *deed.Deed) { d.Queue = stock.Queue{Name: "a"} }, put("b", 1))},
		{"a Put of a Want", api.ErrForm, of(func(d *deed.Deed) { d.Bind.Want = []api.Pair{{Key: "k"}} }, put("b", 1))},
		{"a Settle of a message", api.ErrForm, of(func(d *deed.Deed) { d.Mail.Due = 1 }, settle("q", 2, 0))},
		{"a Settle of a head", api.ErrForm, of(func(d *deed.Deed) { d.Mail.Head = []api.Pair{{Key: "k"}} }, settle("q", 2, 0))},
		{"no exchange", api.ErrEmpty, deed.Deed{Kind: deed.Put}},
		{"no name of one", api.ErrForm, of(func(d *deed.Deed) { d.Mail.Shop = "A" }, put("b", 1))},
		{"a name too long", api.ErrLong, of(func(d *deed.Deed) { d.Mail.Shop = strings.Repeat("a", 17) }, put("b", 1))},
		{"no key", api.ErrForm, of(func(d *deed.Deed) { d.Mail.Key = "a..b" }, put("b", 1))},
		{"a head of nine", api.ErrMany, of(func(d *deed.Deed) { d.Mail.Head = make([]api.Pair, 9) }, put("b", 1))},
		{"a pair of no kind", api.ErrKind, of(func(d *deed.Deed) { d.Mail.Head = []api.Pair{{Key: "k", Kind: 3}} }, put("b", 1))},
		{"a key twice", api.ErrThere, of(func(d *deed.Deed) { d.Mail.Head = []api.Pair{{Key: "k"}, {Key: "k"}} }, put("b", 1))},
		{"a body too long", api.ErrLong, put(strings.Repeat("b", 257), 1)},
		{"five Hops", api.ErrRange, of(func(d *deed.Deed) { d.Mail.Hops = 5 }, put("b", 1))},
		{"no queue", api.ErrEmpty, settle("", 2, 0)},
		{"no word for one", api.ErrForm, settle("Q", 2, 0)},
		{"a queue too long", api.ErrLong, settle(strings.Repeat("q", 17), 2, 0)},
		{"no How", api.ErrRange, settle("q", 2, 3)},
		{"no How at all", api.ErrRange, settle("q", 2, 255)},
	} {
		if code := x.d.Check(); code != x.want {
			t.Errorf("%s: %d", x.what, code)
		}
		w.refuses(t, x.what, x.want, x.d)
		w.refuses(t, x.what+", behind others", x.want, put("b", 1), settle("u", 1, 0), x.d)
		w.refuses(t, x.what+", ahead of others", x.want, x.d, put("b", 1), others()[0])
		twin{}.refuses(t, x.what+", at first", x.want, x.d)
	}
}

// P26.1: no two Settles of one name and one ID, whatever else they tell.
func TestThere(t *testing.T) {
	for how := range uint8(3) {
		for other := range uint8(3) {
			w := twin{}.with(t, settle("q", 1, how))
			again := settle("q", 1, other)
			again.Tick = 9
			w.refuses(t, "the same", api.ErrThere, again)
			w.refuses(t, "the same, behind others", api.ErrThere, put("b", 0), settle("q", 2, other), again)
			w.with(t, settle("q", 2, other)).with(t, settle("u", 1, other)).with(t, settle("u", 2, other), settle("q", 0, other))
			twin{}.refuses(t, "both at once", api.ErrThere, settle("u", 3, how), put("b", 0), settle("u", 3, other))
			twin{}.with(t, settle("u", 3, how), settle("q", 3, other), settle("u", 4, other))
		}
	}
	w := twin{}.with(t, put("b", 0))
	w.with(t, put("b", 0)).with(t, settle("a", 0, 0)).with(t, put("b", 0))
}

// P26.2: Settles of a name and an ID that the draft has not; a Put of that name, and of that ID, is none.
func TestSettles(t *testing.T) {
	sent := deed.Deed{Kind: deed.Put, Mail: api.Mail{ID: 1, Shop: "q", Key: "q", Body: "q"}}
	w := twin{}.with(t, sent)
	if w.x.Settles("q", 1) || w.x.Settles("q", 0) || w.x.Settles("", 1) || w.x.Settles("", 0) {
		t.Error("a Put settles")
	}
	w = w.with(t, settle("q", 2, 0), settle("u", 1, 2), settle("u", most, 1))
	for _, x := range []struct {
		name string
		id   uint64
		want bool
	}{{"q", 1, false}, {"q", 2, true}, {"u", 1, true}, {"u", 2, false}, {"u", most, true}, {"q", most, false}, {"", 2, false}, {"qu", 2, false}, {"", 0, false}} {
		if got := w.x.Settles(x.name, x.id); got != x.want {
			t.Errorf("%s %d: %v", x.name, x.id, got)
		}
	}
	if w.with(t, settle("q", 1, 0)); w.x.Settles("q", 1) {
		t.Error("it settles what another one does")
	}
}

// P26.1: which of two errors comes first: of one deed ErrKind ahead of Check's, that ahead of ErrThere, that ahead of ErrFull; of
// several deeds that of the first one that can't stand behind those ahead.
func TestOrder(t *testing.T) {
	w := twin{}.with(t, settle("q", 1, 0), settle("u", 1, 0))
	var many []deed.Deed
	for n := range 14 {
		many = append(many, put("b", uint64(n)))
	}
	full := w.with(t, many...)
	bad := settle("q", 1, 3)
	for _, x := range []twin{w, full} {
		x.refuses(t, "ErrKind ahead of Check's", api.ErrKind, deed.Deed{Kind: deed.Lend, ID: 1})
		x.refuses(t, "Check's ahead of ErrThere", api.ErrRange, bad)
		x.refuses(t, "ErrThere", api.ErrThere, settle("q", 1, 0))
	}
	full.refuses(t, "ErrKind ahead of ErrFull", api.ErrKind, deed.Deed{Kind: deed.Lend, Name: "q"})
	full.refuses(t, "Check's ahead of ErrFull", api.ErrLong, put(strings.Repeat("b", 257), 0))
	full.refuses(t, "ErrFull", api.ErrFull, settle("q", 2, 0), settle("q", 1, 0))
	faults := []struct {
		want api.Errno
		d    deed.Deed
	}{{api.ErrKind, deed.Deed{Kind: deed.Wake}}, {api.ErrRange, bad}, {api.ErrThere, settle("u", 1, 2)}, {api.ErrEmpty, deed.Deed{Kind: deed.Put}}}
	for _, first := range faults {
		for _, second := range faults {
			w.refuses(t, "two", first.want, first.d, second.d)
			w.refuses(t, "two, behind one", first.want, put("b", 0), first.d, put("b", 0), second.d)
		}
		w.refuses(t, "ahead of too many", first.want, slices.Concat(many, []deed.Deed{first.d}, many)...)
		w.refuses(t, "behind too many", api.ErrFull, slices.Concat(many, many[:1], []deed.Deed{first.d})...)
	}
	w.refuses(t, "there behind what is ahead", api.ErrThere, settle("q", 7, 0), settle("q", 7, 0), bad)
}

// over: what was handed in or out is written over, spare room included.
func over(l []deed.Deed) {
	l = l[:cap(l)]
	for at := range l {
		for _, h := range [][]api.Pair{l[at].Mail.Head, l[at].Bind.Want} {
			h = h[:cap(h)]
			for n := range h {
				h[n] = api.Pair{Key: "over", Kind: 1, Text: "written over"}
			}
		}
		l[at] = deed.Deed{Kind: 77, Name: "over"}
	}
}

// Memory: what was handed in may be written to, and stays as it was, spare room included; so may what At tells.
func TestWrittenOver(t *testing.T) {
	pairs := func() []api.Pair { return append(make([]api.Pair, 0, 4), api.Pair{Key: "x"}, api.Pair{Key: "y"}) }
	spare := func(l ...deed.Deed) []deed.Deed { return append(make([]deed.Deed, 0, len(l)+3), l...) }
	make3 := func() []deed.Deed {
		first, last, none := put("b", 3), put("c", 4), settle("q", 1, 0)
		first.Mail.Head, last.Mail.Head = pairs(), pairs()
		none.Mail.Head, none.Bind.Want, last.Bind.Want = make([]api.Pair, 0, 2), make([]api.Pair, 0, 2), pairs()[:0]
		return spare(first, none, last)
	}
	l := make3()
	p, _ := plain{}.add(make3()...)
	x, code := Draft{}.Add(l...)
	if code != api.OK || !slices.EqualFunc(l, make3(), deed.Same) || !deed.Same(l[:4][3], deed.Deed{}) || l[2].Bind.Want[:2][1].Key != "y" {
		t.Fatalf("%d: %+v", code, l[:4])
	}
	for n, d := range x.At(1) {
		if cap(d.Bind.Want) > 0 && &d.Bind.Want[:1][0] == &l[n].Bind.Want[:1][0] || n == 1 && cap(d.Mail.Head) > 0 {
			t.Errorf("%d: an empty list of what was handed in", n)
		}
	}
	over(l)
	tells(t, "handed in", x, p)
	a, b := x.At(1), x.At(1)
	over(a)
	if !slices.EqualFunc(b, p.at(1), deed.Same) {
		t.Errorf("%+v", b)
	}
	tells(t, "handed out", x, p)
	more, _ := x.Add(put("d", 5))
	other, _ := x.Add(put("e", 6))
	q, _ := p.add(put("d", 5))
	o, _ := p.add(put("e", 6))
	over(more.At(2))
	tells(t, "one more", more, q)
	tells(t, "another one more", other, o)
	tells(t, "as it was", x, p)
}

// P26.1: drafts that were made of one another are all as they were, at the end of long rows.
func TestRows(t *testing.T) {
	codes := map[api.Errno]int{}
	for seed := range int64(120) {
		r := rand.New(rand.NewSource(seed))
		w := twin{}
		all := []twin{w}
		for range 40 {
			var l []deed.Deed
			for range r.Intn(4) {
				l = append(l, thrown(r))
			}
			from := w
			if r.Intn(4) == 0 {
				from = one(r, all...)
			}
			more, code := from.adds(t, l...)
			codes[code]++
			over(l)
			all, w = append(all, more), more
		}
		for _, x := range all {
			tells(t, "at the end", x.x, x.p)
		}
	}
	for _, code := range []api.Errno{api.OK, api.ErrKind, api.ErrThere, api.ErrFull, api.ErrRange, api.ErrLong, api.ErrEmpty} {
		if codes[code] == 0 {
			t.Errorf("no row comes to the error %d", code)
		}
	}
}

// parts: a row is added in parts, up to the first one that can't be.
func parts(x Draft, l ...[]deed.Deed) (Draft, api.Errno) {
	for _, part := range l {
		more, code := x.Add(part...)
		if code != api.OK {
			return x, code
		}
		x = more
	}
	return x, api.OK
}

// P26.3: rows of deeds, cut at each place, and at each two places: what is added in parts is what is added at once; where one of
// them can't be added, its error is told.
func TestParts(t *testing.T) {
	good, bad := 0, 0
	for seed := range int64(150) {
		r := rand.New(rand.NewSource(seed))
		from, _ := Draft{}.Add(settle("u", 100, 0))
		var l []deed.Deed
		for range 1 + r.Intn(18) {
			if d := thrown(r); r.Intn(12) == 0 || (d.Kind == deed.Put || d.Kind == deed.Settle) && d.Check() == api.OK {
				l = append(l, d)
			}
		}
		whole, want := from.Add(l...)
		if want == api.OK {
			good++
		} else {
			bad++
		}
		check := func(got Draft, code api.Errno) {
			t.Helper()
			if code != want || want == api.OK && (got.Len() != whole.Len() || !slices.EqualFunc(got.At(5), whole.At(5), deed.Same)) {
				t.Fatalf("%+v: %d, %+v, wanted %d, %+v", l, code, got.At(5), want, whole.At(5))
			}
		}
		for first := range len(l) + 1 {
			check(parts(from, l[:first], l[first:]))
			for second := first; second <= len(l); second++ {
				check(parts(from, l[:first], l[first:second], l[second:]))
			}
		}
		var alone [][]deed.Deed
		for at := range l {
			alone = append(alone, l[at:at+1])
		}
		check(parts(from, alone...))
	}
	if good < 20 || bad < 20 {
		t.Errorf("%d rows that can be added, %d that can't", good, bad)
	}
}
