package vault

import (
	"math"
	"slices"
	"strconv"
	"strings"
	"testing"

	"stairwell/api"
	"stairwell/deed"
	"stairwell/disk"
	"stairwell/image"
	"stairwell/notes"
	"stairwell/policy"
	"stairwell/store"
	"stairwell/wal"
)

// The document's examples: a vault on 80 blocks, a Note, Commit, the power goes: opened anew it has that note, and one that says
// Woken.
func TestExample(t *testing.T) {
	x := begun(t, ladder(t), low, 80)
	x.each(t, note("first"))
	x.commit(t, api.OK)
	x.again(t, 8)
	want := []notes.Note{{Kind: 99, Text: "first"}, {Tick: 8, Kind: store.Woken}}
	if got := x.v.Parts().Notes.All(); !slices.Equal(got, want) {
		t.Errorf("%+v", got)
	}
}

// fill: each block of a disk is written, with bytes that go on.
func fill(t *testing.T, d *disk.Disk, s string) {
	t.Helper()
	for at := range d.Blocks() {
		if code := d.Write(at, strings.Repeat(s, 64)[:64]); code != api.OK {
			t.Fatal(code)
		}
	}
	if code := d.Sync(); code != api.OK {
		t.Fatal(code)
	}
}

// P25.1: a vault of a disk whose log tells no image has a new store, at whatever tick: nothing is noted.
func TestOpenNew(t *testing.T) {
	p := ladder(t)
	for place := range 4 {
		for _, blocks := range []int{10, 11, 12, 80, 81, 4096} {
			for _, tick := range []uint64{0, 7, math.MaxUint64} {
				for _, s := range []string{"\x00", "\xa5", "STRW", "any"} {
					x := blank(p, place, blocks)
					fill(t, x.d, s)
					x.open(t, tick, api.OK)
					if got := x.v.Parts(); !store.Same(got, store.New(p, place).Parts()) || got.Notes.Total() != 0 {
						t.Fatalf("%+v", got)
					}
					if len(x.p.image) != 225 || x.p.gen != 1 {
						t.Fatalf("%d, %d", len(x.p.image), x.p.gen)
					}
				}
			}
		}
	}
}

// P25.1: heads without an image count for the generation alone.
func TestOpenHeads(t *testing.T) {
	for _, gen := range []uint64{0, 1, 76, lastGen - 1} {
		for _, area := range []int{0, 1} {
			x := blank(ladder(t), left, 80)
			x.d.Write(40*area, headOf(gen))
			x.d.Sync()
			x.p.gen = gen
			x.open(t, 5, api.OK)
			x.does(t, laid()...)
			x.commit(t, api.OK)
			if gen < lastGen-1 {
				x.again(t, 6)
			}
		}
	}
}

// P25.1: the log tells an image, and no group: the store is that, nothing is lent any more, and a note says so.
func TestOpenImage(t *testing.T) {
	x := begun(t, ladder(t), left, 80)
	x.again(t, 4)
	x.again(t, 5)
	want := []notes.Note{{Tick: 4, Kind: store.Woken}, {Tick: 5, Kind: store.Woken}}
	if got := x.v.Parts().Notes.All(); !slices.Equal(got, want) {
		t.Errorf("%+v", got)
	}
	s := x.p.s
	for _, d := range append(laid(), put("a", "x"), put("a", "y"), put("r", "z"), lend("q")) {
		var code api.Errno
		if s, _, code = s.Do(d); code != api.OK {
			t.Fatal(code)
		}
	}
	d := logged(t, 80, bytesOf(s))
	v, code := Open(x.p.p, left, d, 9)
	if code != api.OK {
		t.Fatal(code)
	}
	woken, _, _ := s.Do(deed.Deed{Kind: deed.Wake, Tick: 9})
	if !store.Same(v.Parts(), woken.Parts()) || store.Same(v.Parts(), s.Parts()) {
		t.Errorf("%q, wanted %q", image.Bytes(v.Parts()), bytesOf(woken))
	}
	tells(t, "opened", d, 2, bytesOf(woken))
}

// P25.1: an image, and groups of one deed, of several, of none: all are done, in order.
func TestOpenGroups(t *testing.T) {
	x := begun(t, ladder(t), left, 80)
	x.does(t, laid()...)
	x.each(t, put("a", "1"), put("a", "2"), put("a", "3"))
	x.does(t)
	x.does(t, lend("q"), put("a", "4"), settle("q", 100, 0), put("r", "5"))
	x.commit(t, api.OK)
	if len(x.p.logged) != 6 || x.p.gen != 1 {
		t.Fatalf("%d groups, %d", len(x.p.logged), x.p.gen)
	}
	want := x.p.s
	x.again(t, 3)
	want, _, _ = want.Do(deed.Deed{Kind: deed.Wake, Tick: 3})
	if !store.Same(x.v.Parts(), want.Parts()) {
		t.Errorf("%q, wanted %q", image.Bytes(x.v.Parts()), bytesOf(want))
	}
	if got := body(x, "q"); got != "3 4" {
		t.Errorf("%q", got)
	}
	x.again(t, 4)
}

// body: those of a queue's messages, in order.
func body(x *pair, queue string) string {
	var l []string
	for _, one := range x.v.Parts().Stock.Line(queue).All() {
		l = append(l, one.Mail.Body)
	}
	return strings.Join(l, " ")
}

// P25.1, P3: what was lent when the power goes comes again, as lent ahead, and is lent in order; what was settled doesn't.
func TestLent(t *testing.T) {
	x := begun(t, ladder(t), left, 200)
	x.does(t, laid()...)
	x.each(t, put("a", "1"), put("a", "2"), put("a", "3"), lend("q"), lend("q"), settle("q", 101, 0))
	x.commit(t, api.OK)
	x.again(t, 6)
	items := x.v.Parts().Stock.Line("q").All()
	if len(items) != 2 || items[0].Lent || !items[0].Again || items[1].Lent || items[1].Again {
		t.Fatalf("%+v", items)
	}
	got := x.does(t, lend("q"), lend("q"))
	if a, b := got[0].Item, got[1].Item; a.Mail.ID != 100 || !a.Again || !a.Lent || b.Mail.ID != 102 || b.Again || !b.Lent {
		t.Errorf("%+v", got)
	}
	if _, _, code := x.tries(t, true, lend("q")); code != api.ErrEmpty {
		t.Errorf("%d", code)
	}
	if got := x.v.Parts().Notes.All(); !slices.Equal(got, []notes.Note{{Tick: 6, Kind: store.Woken}}) {
		t.Errorf("%+v", got)
	}
	x.again(t, 7) // these groups weren't committed
	if items := x.v.Parts().Stock.Line("q").All(); !items[0].Again || items[1].Again {
		t.Errorf("%+v", items)
	}
}

// logged: a disk whose log tells that image, and these groups.
func logged(t *testing.T, blocks int, text string, groups ...string) *disk.Disk {
	t.Helper()
	d := disk.New(blocks)
	relog(t, d, text, groups...)
	return d
}

// relog: the log on a disk tells that image, and these groups, from now on.
func relog(t *testing.T, d *disk.Disk, text string, groups ...string) {
	t.Helper()
	l, _, _, code := wal.Open(d)
	if code == api.OK {
		code = l.Begin(text)
	}
	for _, one := range groups {
		if code == api.OK {
			code = l.Append(one)
		}
	}
	if code == api.OK {
		code = l.Commit()
	}
	if code != api.OK {
		t.Fatal(code)
	}
}

// shut: no vault can be opened on a disk, with that error, and it stays as it was.
func shut(t *testing.T, what string, d *disk.Disk, p policy.Policy, place int, want api.Errno) {
	t.Helper()
	lasts, on := d.Lasts(), d.On()
	v, code := Open(p, place, d, 3)
	if v != nil || code != want {
		t.Errorf("%s: %v, %d, wanted %d", what, v != nil, code, want)
	}
	if d.Lasts() != lasts || d.On() != on || d.Waits() != 0 {
		t.Errorf("%s: the disk is another", what)
	}
}

// P25.1: the errors of layer 17's Open, in their order.
func TestOpenDisk(t *testing.T) {
	p := ladder(t)
	shut(t, "no disk", nil, p, left, api.ErrNil)
	for blocks := range 6 {
		d := disk.New(blocks)
		want := api.ErrRange
		if blocks >= 4 {
			want = api.ErrSpace
		}
		shut(t, strconv.Itoa(blocks)+" blocks", d, p, left, want)
		d.Down(0)
		shut(t, "off", d, p, left, api.ErrPower)
	}
	d := logged(t, 80, "no image")
	d.Down(0)
	shut(t, "off, with what is no image", d, p, left, api.ErrPower)
	d.Up()
	shut(t, "on again", d, p, left, api.ErrForm)
}

// P25.1: ErrForm of an image that isn't one, or is one of another policy or place; ahead of what Begin would tell.
func TestOpenWrongImage(t *testing.T) {
	p := ladder(t)
	x := begun(t, p, left, 200)
	x.does(t, append(laid(), put("a", "x"), boundUp("a", "high"))...)
	text := bytesOf(x.p.s)
	for _, one := range []string{"x", "\x00", text[1:], text[:len(text)-1], text + "\x00", strings.Repeat("\x00", 224), group(t, note("n"))} {
		d := logged(t, 200, one)
		shut(t, "no image", d, p, left, api.ErrForm)
		d.Arm(0, whole)
		shut(t, "no image, armed", d, p, left, api.ErrForm)
		shut(t, "no image, and a group", logged(t, 200, one, group(t, note("n"))), p, left, api.ErrForm)
	}
	for _, place := range []int{low, right, high} {
		shut(t, "another place", logged(t, 200, text), p, place, api.ErrForm)
	}
	other := ladder(t)
	other.Grants = nil
	shut(t, "another policy", logged(t, 200, text), other, left, api.ErrForm)
	other = ladder(t)
	other.Places[left].Bytes = 1
	shut(t, "another room", logged(t, 200, text), other, left, api.ErrForm)
	shut(t, "too small a disk", logged(t, 4, "x"), p, left, api.ErrForm)
	d := logged(t, 200, text)
	relog(t, d, "x")
	shut(t, "one that is right, ahead of it", d, p, left, api.ErrForm)
	relog(t, d, text)
	if v, code := Open(p, left, d, 3); code != api.OK || v == nil {
		t.Errorf("%d", code)
	}
}

// P25.1: ErrForm of a record that is no group, and of a deed that has an error, wherever it stands.
func TestOpenWrongGroup(t *testing.T) {
	p := ladder(t)
	text := bytesOf(store.New(p, left))
	fine := group(t, laid()...)
	gone := deed.Deed{Kind: deed.DropQueue, Name: "none"}
	for _, x := range []struct{ what, record string }{
		{"no group", "x"}, {"one deed too many said", "\x02" + fine[1:]}, {"one too few", "\x01" + fine[1:]}, {"a byte more", fine + "\x00"},
		{"a byte less", fine[:len(fine)-1]}, {"of none, with a byte", "\x00\x00"}, {"a deed of no kind", "\x01\x0d\x00\x00\x00\x00\x00\x00\x00\x00"},
		{"a deed that may not be", group(t, note("n"))[:10] + "\x63\x00\x41" + letters(65)},
		{"an image", text},
		{"a deed that has an error", group(t, gone)}, {"at the end", group(t, note("n"), note("n"), gone)}, {"at the front", group(t, gone, note("n"))},
		{"in between", group(t, note("n"), gone, note("n"))}, {"a binding to no queue", group(t, newShop("b", 2, ""), bound("b", "none"))},
		{"a release without a grant", group(t, newShop("r9", 4, "high"))}, {"nothing to lend", group(t, newQueue("v", 1, 0, ""), lend("v"))},
	} {
		for _, d := range []*disk.Disk{
			logged(t, 200, text, x.record), logged(t, 200, text, fine, x.record), logged(t, 200, text, x.record, fine), logged(t, 200, text, "\x00", x.record, "\x00"),
		} {
			shut(t, x.what, d, p, left, api.ErrForm)
			d.Arm(0, 0)
			shut(t, x.what+", armed", d, p, left, api.ErrForm)
		}
	}
	late := group(t, deed.Deed{Kind: deed.Unbind, Bind: bound("a", "q").Bind})
	shut(t, "by a group ahead", logged(t, 200, text, fine, late, late), p, left, api.ErrForm)
	if _, code := Open(p, left, logged(t, 200, text, fine, late, "\x00", fine), 3); code != api.OK {
		t.Errorf("%d", code)
	}
}

// P25.1: Begin's errors: ErrSpace, ahead of ErrEnd, and ErrPower at each of its three Syncs.
func TestOpenBegin(t *testing.T) {
	p := ladder(t)
	for blocks := 4; blocks < 14; blocks++ {
		want := api.ErrSpace
		if blocks >= 10 {
			want = api.OK
		}
		x := blank(p, right, blocks)
		x.open(t, 1, want)
		d := disk.New(blocks)
		d.Write(0, headOf(lastGen))
		d.Sync()
		if want == api.OK {
			want = api.ErrEnd
		}
		shut(t, "the last generation", d, p, right, want)
	}
	text := bytesOf(store.New(p, right))
	d := disk.New(80)
	d.Write(0, headOf(lastGen-2))
	d.Sync()
	relog(t, d, text)
	relog(t, d, text, group(t, note("n")))
	shut(t, "the last generation, and an image", d, p, right, api.ErrEnd)
	for sync := range 4 {
		for _, cut := range []int{0, whole} {
			x := begun(t, p, right, 80)
			x.does(t, note("n"), note("m"))
			x.commit(t, api.OK)
			x.down()
			x.up()
			x.arm(sync, cut)
			if sync == 3 {
				x.open(t, 4, api.OK)
				continue
			}
			x.open(t, 4, api.ErrPower)
			x.open(t, 4, api.ErrPower)
			x.up()
			x.open(t, 5, api.OK)
			woken := uint64(1)
			if sync == 2 && cut > 0 {
				woken = 2
			}
			if got := x.v.Parts().Notes.Total(); got != 2+woken {
				t.Errorf("sync %d, cut %d: %d notes", sync, cut, got)
			}
		}
	}
}

// P25.1: an image that had just room when it was begun has none any more with the note that says Woken.
func TestOpenSpace(t *testing.T) {
	for more := range 3 {
		x := begun(t, ladder(t), left, 12) // a row of 320 bytes
		for range 4 {
			x.each(t, note("")) // the image has 11 bytes more for each
		}
		x.each(t, note(letters(19+more)))
		want := 225 + 5*11 + 19 + more
		x.commit(t, api.OK)
		if got := len(image.Bytes(x.v.Parts())); got != want {
			t.Fatalf("%d bytes, wanted %d", got, want)
		}
		x.down()
		x.up()
		if want+11+around <= 320 {
			x.open(t, 1, api.OK)
			continue
		}
		lasts := x.d.Lasts()
		x.open(t, 1, api.ErrSpace)
		if x.d.Lasts() != lasts {
			t.Error("the disk is another")
		}
	}
}

// P25.1 to P25.3: of nil.
func TestNil(t *testing.T) {
	isNil(t, "nil", nil)
	var v *Vault
	if _, at, code := v.All(); at != 0 || code != api.ErrNil {
		t.Errorf("%d, %d", at, code)
	}
	if _, at, code := v.All(make([]deed.Deed, 256)...); at != 0 || code != api.ErrNil {
		t.Errorf("%d, %d", at, code)
	}
}
