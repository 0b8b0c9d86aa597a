package vault

import (
	"math/rand"
	"slices"
	"strconv"
	"strings"
	"testing"

	"stairwell/api"
	"stairwell/deed"
	"stairwell/image"
	"stairwell/match"
	"stairwell/policy"
	"stairwell/route"
	"stairwell/stock"
	"stairwell/store"
)

// kinds: deeds of each kind, that may be done behind each other at left.
func kinds() []deed.Deed {
	m := api.Mail{Shop: "a", Key: "k", Head: []api.Pair{{Key: "x", Num: -1}}, Body: "pulled", Hops: 1}
	return append(laid(), boundUp("a", "high"), put("a", "1"), put("a", "2"), put("r", "3"), lend("q"), settle("q", 100, 0), lend("q"), settle("q", 101, 2),
		deed.Deed{Kind: deed.Pull, Tick: 1, From: low, Number: 3, Mail: m}, deed.Deed{Kind: deed.Late, Tick: 9}, lend("q"), deed.Deed{Kind: deed.Wake, Tick: 9}, note("n"),
		deed.Deed{Kind: deed.Unbind, Bind: bound("a", "q").Bind}, deed.Deed{Kind: deed.DropQueue, Name: "q"}, deed.Deed{Kind: deed.DropShop, Name: "a"})
}

// P25.2: deeds of each kind, done one by one, by Do and by All; each is a group of its own.
func TestDo(t *testing.T) {
	seen := map[uint8]bool{}
	for _, x := range []*pair{begun(t, ladder(t), left, 200), begun(t, ladder(t), left, 200)} {
		for n, d := range kinds() {
			x.each(t, d)
			if n%2 == 0 {
				x.commit(t, api.OK)
			}
			seen[d.Kind] = true
		}
		x.commit(t, api.OK)
		if len(x.p.logged) != len(kinds()) || x.p.gen != 1 {
			t.Fatalf("%d groups, %d", len(x.p.logged), x.p.gen)
		}
		x.again(t, 10)
	}
	if len(seen) != 13 {
		t.Errorf("%d kinds", len(seen))
	}
	x := begun(t, ladder(t), left, 200)
	for _, d := range kinds() {
		x.does(t, d)
	}
}

// P25.2: what comes of a deed is told.
func TestResults(t *testing.T) {
	x := begun(t, ladder(t), left, 80)
	x.does(t, laid()...)
	r, code := x.v.Do(put("a", "1"))
	if code != api.OK || r.Count != 1 || r.Lost != 0 {
		t.Errorf("%+v, %d", r, code)
	}
	r, code = x.v.Do(lend("q"))
	if code != api.OK || r.Item.Mail.ID != 100 || r.Item.Mail.Body != "1" || !r.Item.Lent {
		t.Errorf("%+v, %d", r, code)
	}
	l, at, code := x.v.All(put("a", "2"), lend("q"), note("n"), put("r", "3"))
	if code != api.OK || at != 0 || len(l) != 4 || l[0].Count != 1 || l[1].Item.Mail.Body != "2" || l[2].Count != 0 || l[3].Count != 1 {
		t.Errorf("%+v, %d, %d", l, at, code)
	}
}

// P25.2: all of them, as one group, at each place cut into two groups, which is the same store; none together, ahead, behind.
func TestAll(t *testing.T) {
	p := ladder(t)
	once := begun(t, p, left, 200)
	once.does(t, kinds()...)
	once.commit(t, api.OK)
	if len(once.p.logged) != 1 {
		t.Fatalf("%d groups", len(once.p.logged))
	}
	for at := range len(kinds()) + 1 {
		x := begun(t, p, left, 200)
		x.does(t, kinds()[:at]...)
		x.does(t, kinds()[at:]...)
		x.does(t)
		x.commit(t, api.OK)
		if !store.Same(x.v.Parts(), once.v.Parts()) || len(x.p.logged) != 3 {
			t.Fatalf("cut at %d: %d groups", at, len(x.p.logged))
		}
		x.again(t, 10)
	}
	once.again(t, 10)
}

// P25.2: no deed together with others ahead and behind is a record without any.
func TestNone(t *testing.T) {
	x := begun(t, ladder(t), left, 80)
	for range 3 {
		l, at, code := x.v.All()
		if len(l) != 0 || at != 0 || code != api.OK {
			t.Fatalf("%+v, %d, %d", l, at, code)
		}
		x.p.all(t, nil)
		x.does(t, note("n"))
		x.does(t, []deed.Deed{}...)
	}
	x.commit(t, api.OK)
	want := []string{"\x00", group(t, note("n")), "\x00"}
	if !slices.Equal(x.p.logged, slices.Concat(want, want, want)) {
		t.Errorf("%q", x.p.logged)
	}
	x.again(t, 1)
}

// P25.2: a group of 255 deeds, and of 256: ErrMany, ahead of a deed's error; nothing is done.
func TestMany(t *testing.T) {
	x := begun(t, ladder(t), left, 400)
	l := slices.Repeat([]deed.Deed{note("n")}, 256)
	x.refuses(t, "256", 0, api.ErrMany, l...)
	x.does(t, l[:255]...)
	x.does(t, l[:254]...)
	x.commit(t, api.OK)
	if got := x.v.Parts().Notes.Total(); got != 509 {
		t.Errorf("%d", got)
	}
	x.again(t, 1)
	for at := range 256 {
		wrong := slices.Clone(l)
		wrong[at] = deed.Deed{Kind: 13}
		x.refuses(t, "256, one of them wrong", 0, api.ErrMany, wrong...)
		if at < 255 {
			x.refuses(t, "255, one of them wrong", at, api.ErrKind, wrong[:255]...)
		}
	}
	x.refuses(t, "1000", 0, api.ErrMany, slices.Repeat(l[:250], 4)...)
}

// faults: deeds that can't be done behind kinds' first four, with their errors.
func faults() map[string]struct {
	d    deed.Deed
	want api.Errno
} {
	type fault = struct {
		d    deed.Deed
		want api.Errno
	}
	return map[string]fault{
		"no kind":              {deed.Deed{Kind: 13}, api.ErrKind},
		"no kind at all":       {deed.Deed{Kind: 255, Name: "q"}, api.ErrKind},
		"what isn't told":      {deed.Deed{Kind: deed.Wake, ID: 1}, api.ErrForm},
		"no name":              {lend(""), api.ErrEmpty},
		"a name too long":      {lend(strings.Repeat("q", 17)), api.ErrLong},
		"a text too long":      {note(letters(65)), api.ErrLong},
		"no sort":              {newShop("b", 5, ""), api.ErrKind},
		"a To":                 {newShop("b", 1, "right"), api.ErrForm},
		"an exchange there":    {newShop("a", match.Direct, ""), api.ErrThere},
		"release to no place":  {newShop("b", 4, "none"), api.ErrNone},
		"release, no grant":    {newShop("b", 4, "low"), api.ErrFlow},
		"drop no exchange":     {deed.Deed{Kind: deed.DropShop, Name: "none"}, api.ErrNone},
		"a queue there":        {newQueue("q", 4, 0, ""), api.ErrThere},
		"a queue without room": {newQueue("v", 0, 0, ""), api.ErrRange},
		"drop no queue":        {deed.Deed{Kind: deed.DropQueue, Name: "none"}, api.ErrNone},
		"bind no queue":        {bound("a", "none"), api.ErrNone},
		"bind down":            {boundUp("a", "low"), api.ErrFlow},
		"bind up to none":      {boundUp("a", "none"), api.ErrNone},
		"bind a release":       {bound("r", "q"), api.ErrKind},
		"unbind":               {deed.Deed{Kind: deed.Unbind, Bind: bound("a", "none").Bind}, api.ErrNone},
		"put to none":          {put("none", "x"), api.ErrNone},
		"put too long":         {put("a", letters(257)), api.ErrLong},
		"lend of none":         {lend("none"), api.ErrNone},
		"settle none":          {settle("q", 7, 0), api.ErrNone},
		"settle, no How":       {settle("q", 7, 3), api.ErrRange},
		"pull from no place":   {deed.Deed{Kind: deed.Pull, From: 4, Number: 1, Mail: api.Mail{Shop: "a"}}, api.ErrNone},
		"pull from high":       {deed.Deed{Kind: deed.Pull, From: left, Number: 1, Mail: api.Mail{Shop: "a"}}, api.ErrFlow},
		"pull of no number":    {deed.Deed{Kind: deed.Pull, From: low, Mail: api.Mail{Shop: "a"}}, api.ErrOrder},
	}
}

// P25.2: of the first deed that has an error the place and the error; none is done ahead of it, or behind it; the store answers
// as ahead.
func TestRefused(t *testing.T) {
	x := begun(t, ladder(t), left, 400)
	x.does(t, laid()...)
	x.each(t, put("a", "1"))
	fine := []deed.Deed{note("n"), put("a", "2"), put("r", "3"), lend("q"), newQueue("u", 1, 0, ""), bound("a", "u")}
	for what, wrong := range faults() {
		x.refuses(t, what, 0, wrong.want, wrong.d)
		for at := range len(fine) + 1 {
			l := slices.Insert(slices.Clone(fine), at, wrong.d)
			x.refuses(t, what, at, wrong.want, l...)
			x.refuses(t, what+", and more", at, wrong.want, append(l, deed.Deed{Kind: 99}, lend("none"))...)
			x.refuses(t, what+", twice", at, wrong.want, slices.Insert(l, at, wrong.d)...)
		}
	}
	x.does(t, fine[:5]...)
	x.commit(t, api.OK)
	x.again(t, 4)
}

// P25.2: the error is that of the deed behind those that were done ahead of it in the group.
func TestRefusedBehind(t *testing.T) {
	x := begun(t, ladder(t), left, 400)
	x.does(t, laid()...)
	x.each(t, put("a", "1"))
	x.refuses(t, "lent", 1, api.ErrEmpty, lend("q"), lend("q"))
	x.refuses(t, "not lent", 0, api.ErrOrder, settle("q", 100, 0))
	x.refuses(t, "settled", 2, api.ErrNone, lend("q"), settle("q", 100, 0), settle("q", 100, 0))
	x.refuses(t, "brought back", 2, api.ErrOrder, lend("q"), settle("q", 100, 2), settle("q", 100, 1))
	x.refuses(t, "dropped", 1, api.ErrNone, deed.Deed{Kind: deed.DropQueue, Name: "q"}, lend("q"))
	x.refuses(t, "released", 2, api.ErrGrant, put("r", "2"), note("n"), put("r", "3"))
	x.does(t, put("r", "2"))
	x.refuses(t, "released ahead", 0, api.ErrGrant, put("r", "3"))
	x.does(t, lend("q"), settle("q", 100, 2), lend("q"), settle("q", 100, 1))
	var shops []deed.Deed
	for n := range 7 {
		shops = append(shops, newShop("s"+strconv.Itoa(n), match.Topic, ""))
	}
	x.refuses(t, "nine exchanges", 6, api.ErrFull, shops...)
	pull := deed.Deed{Kind: deed.Pull, From: low, Number: 5, Mail: api.Mail{Shop: "a"}}
	x.refuses(t, "pulled", 1, api.ErrOrder, pull, pull)
	x.does(t, pull)
}

// great: a deed that has as many bytes as one may have, but for so many.
func great(less int) deed.Deed {
	d := put("a", letters(256-less))
	d.Mail.Key = letters(64)
	for n := range 8 {
		d.Mail.Head = append(d.Mail.Head, api.Pair{Key: letters(15) + strconv.Itoa(n), Kind: 1, Text: letters(64)})
	}
	return d
}

// sized: deeds whose group has just so many bytes.
func sized(t *testing.T, bytes int) []deed.Deed {
	t.Helper()
	size := len(group(t, great(0))) - 1
	count := (bytes - 1 + size - 1) / size
	less := count*size - (bytes - 1)
	var l []deed.Deed
	for range count {
		l = append(l, great(min(less, 256)))
		less -= min(less, 256)
	}
	if got := len(group(t, l...)); got != bytes {
		t.Fatalf("%d bytes, wanted %d", got, bytes)
	}
	return l
}

// P25.2: the errors in their order: a deed's ahead of the record's: a group with the greatest record that there may be, that
// lets the log begin anew, one with a byte more, ErrLong, and that with a deed that has an error.
func TestLong(t *testing.T) {
	x := begun(t, ladder(t), low, 200)
	x.does(t, newShop("a", match.Fanout, ""), newQueue("q", 1, 0, ""), bound("a", "q"))
	x.each(t, note("ahead"))
	for _, more := range []int{1, 2, 100, 50000} {
		l := sized(t, mostRecord+more)
		x.refuses(t, "more bytes", 0, api.ErrLong, l...)
		x.refuses(t, "more bytes, and an error", len(l), api.ErrNone, append(l, lend("none"))...)
		x.refuses(t, "an error, and more bytes", 0, api.ErrNone, append([]deed.Deed{lend("none")}, l...)...)
	}
	if x.p.gen != 1 || len(x.p.waits) != 2 {
		t.Fatalf("%d, %d wait", x.p.gen, len(x.p.waits))
	}
	for at, bytes := range []int{mostRecord, mostRecord - 1, 20000} {
		x.does(t, sized(t, bytes)...)
		if x.p.gen != uint64(2+at) || len(x.p.waits) != 0 {
			t.Fatalf("%d, %d wait", x.p.gen, len(x.p.waits))
		}
		x.each(t, note("between"))
	}
	x.refuses(t, "more bytes", 0, api.ErrLong, sized(t, mostRecord+1)...)
	x.commit(t, api.OK)
	x.again(t, 1)
}

// P25.2: a record that has just room waits; one with a byte more lets the log begin anew, with the image of the store as it is
// behind the group: all that waited lasts then, and the group, without a Commit.
func TestRoom(t *testing.T) {
	for _, ahead := range []int{0, 1, 5, 40, 64} {
		for _, more := range []int{-1, 0, 1, 2, 30} {
			for _, committed := range []bool{false, true} {
				x := begun(t, ladder(t), left, 40)
				x.does(t, note(letters(ahead)))
				for x.p.room() >= 3*noteSize+64+30 {
					x.each(t, note(letters(40)))
				}
				if committed {
					x.commit(t, api.OK)
				}
				waits, room := len(x.p.waits), x.p.room()
				l := []deed.Deed{note("a"), note("b"), note("")}
				missing := room + more - stands(group(t, l...))
				l[2] = note(letters(missing / 3))
				l[1] = note(letters(missing / 3))
				l[0] = note(letters(missing + 2 - missing/3*2))
				if stands(group(t, l...)) != room+more {
					t.Fatalf("%d bytes, wanted %d", stands(group(t, l...)), room+more)
				}
				x.does(t, l...)
				if more <= 0 && (x.p.gen != 1 || len(x.p.waits) != waits+1 || x.p.room() != -more) {
					t.Fatalf("generation %d, %d wait, room for %d", x.p.gen, len(x.p.waits), x.p.room())
				}
				if more > 0 && (x.p.gen != 2 || len(x.p.waits)+len(x.p.logged) != 0 || x.p.image != image.Bytes(x.v.Parts())) {
					t.Fatalf("generation %d, %d wait", x.p.gen, len(x.p.waits))
				}
				x.again(t, 1)
				if x.does(t, note("behind")); more > 0 && x.v.Parts().Notes.All()[0].Text != letters(ahead) {
					t.Errorf("%+v", x.v.Parts().Notes.All()[0])
				}
			}
		}
	}
}

// P25.2: the greatest image that has room, and one that has none, to the byte; a refused group changes nothing, not what waits.
func TestGreatestImage(t *testing.T) {
	x := begun(t, ladder(t), left, 10) // a row of 256 bytes, room for 22; a Note more is 11 bytes more of an image, and its text
	x.refuses(t, "no room, neither for the record nor for the image", 0, api.ErrSpace, note(letters(12)))
	x.does(t, note(""))
	if x.p.room() != 0 || x.p.gen != 1 {
		t.Fatalf("room for %d, %d", x.p.room(), x.p.gen)
	}
	x.refuses(t, "a byte too many", 0, api.ErrSpace, note("t"))
	x.refuses(t, "two", 0, api.ErrSpace, note(""), note(""))
	x.refuses(t, "a deed's error ahead", 2, api.ErrNone, note(""), note(""), lend("none"))
	x.commit(t, api.OK) // what waited waits yet
	x.refuses(t, "a byte too many, behind a Commit", 0, api.ErrSpace, note("t"))
	x.does(t, note(""))
	if len(x.p.image) != 256-around || x.p.gen != 2 || x.p.room() != 0 {
		t.Fatalf("%d bytes, %d, room for %d", len(x.p.image), x.p.gen, x.p.room())
	}
	x.refuses(t, "one more", 0, api.ErrSpace, note(""))
	x.does(t)
	if x.p.gen != 3 {
		t.Errorf("%d", x.p.gen)
	}
	x.refuses(t, "one more", 0, api.ErrSpace, note(""))
	x.down()
	x.up()
	x.open(t, 1, api.ErrSpace) // with the note that says Woken
	for more := range 24 {
		x := begun(t, ladder(t), left, 10)
		gen, want := uint64(2), api.OK
		switch {
		case more == 0:
			gen = 1
		case more > 11:
			gen, want = 1, api.ErrSpace
		}
		if _, _, code := x.tries(t, true, note(letters(more))); code != want || x.p.gen != gen {
			t.Errorf("%d: %d, %d, wanted %d, %d", more, code, x.p.gen, want, gen)
		}
	}
}

// P25.2: the log begins anew again and again; in the end all stands in it.
func TestAnew(t *testing.T) {
	x := begun(t, ladder(t), left, 40)
	x.does(t, laid()...)
	for n := range 200 {
		x.does(t, put("a", strconv.Itoa(n)), lend("q"), settle("q", uint64(100+n), 0), note(strconv.Itoa(n)[:1]))
	}
	if x.p.gen < 30 {
		t.Errorf("%d", x.p.gen)
	}
	x.again(t, 3)
}

// P25.2: Begin's ErrEnd: nothing is done then, and what waits waits yet.
func TestEnd(t *testing.T) {
	x := blank(ladder(t), left, 14)
	x.d.Write(0, headOf(lastGen-1))
	x.d.Sync()
	x.p.gen = lastGen - 1
	x.open(t, 0, api.OK) // a row of 384 bytes, room for 150
	x.does(t, note(letters(64)))
	x.refuses(t, "no generation more", 0, api.ErrEnd, note(letters(64)))
	x.refuses(t, "ErrSpace ahead", 0, api.ErrSpace, note(letters(64)), note(letters(64)))
	x.refuses(t, "a deed's error ahead", 1, api.ErrNone, note(letters(64)), lend("none"))
	x.does(t, note(letters(20)))
	x.commit(t, api.OK)
	x.does(t, note(""))
	if x.p.room() != 0 {
		t.Errorf("%d", x.p.room())
	}
	x.refuses(t, "none, and no room", 0, api.ErrEnd)
	x.commit(t, api.OK)
	x.down()
	x.up()
	x.open(t, 3, api.ErrEnd)
}

// P25.3: a Commit, one more with nothing that waits; how many Syncs of the disk there are: one for a Commit, where something
// waits, three where the log begins anew, none else.
func TestCommit(t *testing.T) {
	for sync := range 10 {
		for _, cut := range []int{0, whole} {
			x := begun(t, ladder(t), left, 80)
			x.arm(sync, cut)
			x.commit(t, api.OK) // nothing waits
			x.does(t, laid()...)
			x.refuses(t, "a deed's error", 0, api.ErrNone, lend("none"))
			code := api.Errno(api.OK)
			if sync == 0 {
				code = api.ErrPower
			}
			x.commit(t, code)
			if sync == 0 {
				x.commit(t, api.ErrBroken)
				continue
			}
			x.commit(t, api.OK)
			x.commit(t, api.OK)
			for range 100 {
				if _, _, code := x.tries(t, false, put("a", letters(200))); code != api.OK {
					break
				}
			}
			x.commit(t, x.p.clone().commit())
			if x.d.On() {
				t.Errorf("sync %d: the power is there", sync)
			}
		}
	}
}

// clone: the same, of which it may be asked what would come.
func (p *plain) clone() *plain {
	more := *p
	more.logged, more.waits = slices.Clone(p.logged), slices.Clone(p.waits)
	return &more
}

// P25.2, P25.3: a log that isn't ready: ErrBroken, ahead of all else; Parts are as they were; the vault that is opened anew is.
func TestBroken(t *testing.T) {
	for _, atCommit := range []bool{true, false} {
		x := begun(t, ladder(t), left, 80)
		x.does(t, laid()...)
		x.commit(t, api.OK)
		if atCommit {
			x.does(t, note("n"))
			x.arm(0, 0)
			x.commit(t, api.ErrPower)
		} else {
			for x.p.room() >= stands(group(t, put("a", letters(256)))) {
				x.does(t, put("a", letters(200)))
			}
			x.arm(1, 0)
			if _, _, code := x.tries(t, false, put("a", letters(256))); code != api.ErrPower {
				t.Errorf("%d", code)
			}
		}
		for range 2 {
			if x.v.Ready() {
				t.Error("ready")
			}
			x.refuses(t, "a deed", 0, api.ErrBroken, note("n"))
			x.refuses(t, "no deed", 0, api.ErrBroken)
			x.refuses(t, "a deed that has an error", 0, api.ErrBroken, deed.Deed{Kind: 99})
			x.refuses(t, "one behind another", 0, api.ErrBroken, note("n"), lend("none"))
			x.refuses(t, "too many", 0, api.ErrBroken, slices.Repeat([]deed.Deed{note("n")}, 256)...)
			x.commit(t, api.ErrBroken)
			x.up() // the vault knows no more what lasts, though the power is there
		}
		x.open(t, 2, api.OK)
		x.does(t, note("n"))
		x.commit(t, api.OK)
	}
}

// P25.2, P25.3: the power goes while nothing is written: groups wait as long as they have room, and nothing is broken till
// something is written.
func TestOff(t *testing.T) {
	x := begun(t, ladder(t), left, 120)
	x.does(t, laid()...)
	x.commit(t, api.OK)
	x.down()
	x.commit(t, api.OK)
	x.does(t, note("n"))
	x.refuses(t, "a deed's error", 1, api.ErrNone, note("n"), lend("none"))
	x.commit(t, api.ErrPower)
	x.refuses(t, "broken", 0, api.ErrBroken, note("n"))
	x.open(t, 1, api.ErrPower)
	x.up()
	x.open(t, 1, api.OK)
	if got := x.v.Parts().Notes.Total(); got != 1 {
		t.Errorf("%d notes", got)
	}
	x.does(t, note("m"))
	x.down()
	x.up() // a short one: what waited was never on the disk
	x.commit(t, api.OK)
	x.does(t, note("o"))
	x.down()
	x.refuses(t, "no room, and no power", 0, api.ErrPower, slices.Repeat([]deed.Deed{note(letters(64))}, 60)...)
	x.refuses(t, "broken", 0, api.ErrBroken)
}

// over: pairs that were handed in or out are written over, spare room included.
func over(h []api.Pair) {
	h = h[:cap(h)]
	for at := range h {
		h[at] = api.Pair{Key: "over", Kind: 1, Text: "written over"}
	}
}

// Memory: what is handed in stays as it was, spare room included, and may be written over, as may what is told.
func TestWrittenOver(t *testing.T) {
	pairs := func() []api.Pair { return append(make([]api.Pair, 0, 4), api.Pair{Key: "x"}, api.Pair{Key: "y"}) }
	p := ladder(t)
	x := begun(t, p, left, 200)
	x.p.p = ladder(t) // the vault has the other one
	l := append(make([]deed.Deed, 0, 20), newShop("h", match.Heads, ""), newQueue("q", 9, 0, ""), newShop("r", route.Release, "right"),
		deed.Deed{Kind: deed.Bind, Bind: route.Bind{Shop: "h", To: "q", Want: pairs(), All: true}}, put("h", "1"), put("h", "2"), lend("q"), lend("q"))
	for at := range 2 {
		l[4+at].Mail.Head = pairs()
	}
	same := slices.Clone(l)
	got := x.does(t, l...)
	if !slices.EqualFunc(l, same, deed.Same) || !deed.Same(l[:9][8], deed.Deed{}) || l[3].Bind.Want[:3][2] != (api.Pair{}) {
		t.Errorf("%+v", l[:9])
	}
	x.p.s = store.With(x.p.p, left, apart(t, x))
	for _, d := range l {
		over(d.Bind.Want)
		over(d.Mail.Head)
	}
	clear(l[:cap(l)])
	for _, r := range got {
		over(r.Item.Mail.Head)
	}
	for at := range p.Places {
		p.Places[at] = policy.Place{Name: "over"}
	}
	clear(p.Slots)
	clear(p.Grants)
	told := x.v.Parts()
	for _, one := range told.Book.Binds() {
		over(one.Want)
	}
	for _, one := range told.Stock.Line("q").All() {
		over(one.Mail.Head)
	}
	told.Seen[0], told.Spent[1] = 9, store.Spent{Count: 9}
	told.Stock = stock.Stock{}
	x.alike(t, "written over")
	x.does(t, put("r", "3"), settle("q", 100, 2), lend("q"))
	x.refuses(t, "the policy's Budget", 0, api.ErrGrant, put("r", "4"))
	x.refuses(t, "the policy's places", 0, api.ErrNone, newShop("s", route.Release, "over"))
	x.commit(t, api.OK)
	x.again(t, 1)
}

// apart: parts that share nothing with a vault's: those of its image.
func apart(t *testing.T, x *pair) store.Parts {
	t.Helper()
	parts, code := image.Read(bytesOf(x.p.s), x.p.p, x.p.place)
	if code != api.OK {
		t.Fatal(code)
	}
	return parts
}

// P25.2, P25.3: parts that a vault told stay as they were, whatever is done to it.
func TestPartsStay(t *testing.T) {
	x := begun(t, ladder(t), left, 80)
	var told []store.Parts
	var as []string
	for _, d := range kinds() {
		x.each(t, d)
		told, as = append(told, x.v.Parts()), append(as, image.Bytes(x.v.Parts()))
	}
	x.commit(t, api.OK)
	for at, parts := range told {
		if image.Bytes(parts) != as[at] {
			t.Errorf("behind %d: another", at)
		}
	}
}

// P25.1 to P25.3: long rows of groups, Commits, errors and powers that go, held against the document's words behind each.
func TestRows(t *testing.T) {
	codes := map[api.Errno]int{}
	gens, opened := uint64(0), 0
	for seed := range int64(42) {
		r := rand.New(rand.NewSource(seed))
		x := blank(ladder(t), int(seed%4), []int{12, 24, 60, 100, 250, 600}[seed%6])
		tick := uint64(0)
		for range 250 {
			tick += uint64(r.Intn(3)) / 2
			codes[x.act(t, r, tick)]++
			if x.p.none {
				opened++
			}
		}
		gens += x.p.gen
	}
	for _, code := range []api.Errno{api.OK, api.ErrBroken, api.ErrPower, api.ErrSpace, api.ErrNil, api.ErrMany, api.ErrKind, api.ErrNone, api.ErrFlow, api.ErrThere, api.ErrGrant, api.ErrOrder, api.ErrEmpty} {
		if codes[code] == 0 {
			t.Errorf("no row comes to the error %d", code)
		}
	}
	if gens < 500 || opened == 0 {
		t.Errorf("%d, %d", gens, opened)
	}
}

// act: one call by chance.
func (x *pair) act(t *testing.T, r *rand.Rand, tick uint64) api.Errno {
	t.Helper()
	if x.p.none && r.Intn(3) > 0 || !x.p.none && x.p.broken && r.Intn(2) == 0 {
		x.up()
		want := *x.p
		x.open(t, tick, want.open(tick))
	}
	switch n := r.Intn(40); {
	case n == 0:
		x.arm(r.Intn(5), one(r, 0, whole))
	case n == 1:
		x.down()
	case n == 2:
		x.up()
		want := *x.p
		x.open(t, tick, want.open(tick))
	case n < 12:
		code := x.p.clone().commit()
		x.commit(t, code)
		return code
	case n == 12:
		_, _, code := x.tries(t, false, slices.Repeat([]deed.Deed{note("n")}, 254+r.Intn(4))...)
		return code
	case n < 24:
		_, _, code := x.tries(t, r.Intn(2) == 0, thrown(r, x.p.s, tick))
		return code
	}
	s := x.p.s
	var l []deed.Deed
	for range r.Intn(8) {
		d := thrown(r, s, tick)
		if r.Intn(20) > 0 && !x.p.none {
			d, s = done(r, s, tick)
		}
		l = append(l, d)
	}
	_, _, code := x.tries(t, false, l...)
	return code
}
