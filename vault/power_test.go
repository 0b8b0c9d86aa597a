package vault

import (
	"math/rand"
	"slices"
	"strconv"
	"testing"

	"stairwell/api"
	"stairwell/deed"
	"stairwell/disk"
	"stairwell/image"
	"stairwell/policy"
	"stairwell/store"
	"stairwell/wal"
)

// step is what is asked of a vault: a group of deeds, or a Commit.
type step struct {
	group  []deed.Deed
	commit bool
}

func doing(l ...deed.Deed) step { return step{group: l} }

// last is what may stand on a disk: a store, or none yet.
type last struct {
	s    store.Store
	none bool
}

// tale is a disk, and what may stand on it.
type tale struct {
	p     policy.Policy
	place int
	d     *disk.Disk
	may   []last
}

// fresh: of a new disk.
func fresh(p policy.Policy, place, blocks int) tale {
	return tale{p, place, disk.New(blocks), []last{{none: true}}}
}

// copied: the same, of another disk with the same bytes, that is on.
func (x tale) copied(t *testing.T) tale {
	t.Helper()
	s, d := x.d.Lasts(), disk.New(x.d.Blocks())
	for at := range d.Blocks() {
		if code := d.Write(at, s[64*at:64*at+64]); code != api.OK {
			t.Fatal(code)
		}
	}
	if code := d.Sync(); code != api.OK {
		t.Fatal(code)
	}
	x.d, x.may = d, slices.Clone(x.may)
	return x
}

// opened: as which store that is opened at a tick.
func (x tale) opened(one last, tick uint64) store.Store {
	if one.none {
		return store.New(x.p, x.place)
	}
	s, _, _ := one.s.Do(deed.Deed{Kind: deed.Wake, Tick: tick})
	return s
}

// gen: that of the disk's log.
func (x tale) gen(t *testing.T) uint64 {
	t.Helper()
	l, _, _, code := wal.Open(x.d)
	if code != api.OK {
		t.Fatal(code)
	}
	return l.Gen()
}

// run: a vault is opened as one of the stores that may stand there, and steps are done, till the power goes; what may stand
// there then: the store as it was behind each group since the last Commit.
func (x tale) run(t *testing.T, tick uint64, steps ...step) tale {
	t.Helper()
	v, code := Open(x.p, x.place, x.d, tick)
	if code == api.ErrPower {
		for _, one := range x.may {
			x.may = append(x.may, last{s: x.opened(one, tick)})
		}
		return x
	}
	if code != api.OK {
		t.Fatalf("Open: %d", code)
	}
	at := slices.IndexFunc(x.may, func(one last) bool { return store.Same(x.opened(one, tick).Parts(), v.Parts()) })
	if at < 0 {
		t.Fatalf("of %d stores it is none: %q", len(x.may), image.Bytes(v.Parts()))
	}
	s := x.opened(x.may[at], tick)
	x.may = []last{{s: s}}
	for _, one := range steps {
		if one.commit {
			code := v.Commit()
			if code == api.ErrPower {
				return x
			}
			if code != api.OK {
				t.Fatalf("Commit: %d", code)
			}
			x.may = []last{{s: s}}
			continue
		}
		for _, d := range one.group {
			more, _, code := s.Do(d)
			if code != api.OK {
				t.Fatalf("%+v: %d", d, code)
			}
			s = more
		}
		gen := x.gen(t)
		_, _, code := v.All(one.group...)
		x.may = append(x.may, last{s: s})
		if code == api.ErrPower {
			return x
		}
		if code != api.OK {
			t.Fatalf("All: %d", code)
		}
		if x.gen(t) != gen { // it began anew: all lasts
			x.may = []last{{s: s}}
		}
	}
	return x
}

// cut: steps are done on a copy of a disk, whose power goes at that Sync, behind so many bytes, and comes again; whether it went.
func (x tale) cut(t *testing.T, tick uint64, sync, cut int, steps ...step) (tale, bool) {
	t.Helper()
	x = x.copied(t)
	x.d.Arm(sync, cut)
	x = x.run(t, tick, steps...)
	if x.d.On() {
		return x, false
	}
	x.d.Up()
	return x, true
}

// first: steps on a new disk of left: groups of one deed, of several, of none, some committed and some not, with something that
// is lent and something that is settled; the log begins anew in between.
func first() []step {
	commit := step{commit: true}
	return []step{
		doing(laid()...), doing(put("a", "1"), put("a", "2")), commit, doing(lend("q")), doing(put("r", "3"), lend("q"), note("lent")), doing(), commit, commit,
		doing(settle("q", 100, 0), note("settled")), doing(settle("q", 101, 2)), commit, doing(lend("q")), doing(put("a", letters(50))), doing(note("waits")),
		doing(note(letters(30))), commit, doing(deed.Deed{Kind: deed.DropQueue, Name: "q"}), doing(note(letters(60))), doing(note("lost")),
	}
}

// then: steps behind any of these.
func then() []step {
	return []step{
		doing(note("then"), newQueue("v", 2, 0, "")), {commit: true}, doing(newShop("b", 2, ""), bound("b", "v"), put("b", "4")), doing(lend("v")),
		{commit: true}, doing(note(letters(40))), doing(note(letters(40))), {commit: true}, doing(deed.Deed{Kind: deed.DropQueue, Name: "v"}), doing(note("end")),
	}
}

// P25.4: the power goes at each Sync, behind each number of bytes: the vault is opened as the store behind a beginning of all
// groups, with all that were committed, and goes on.
func TestEachCut(t *testing.T) {
	for _, blocks := range []int{26, 31} {
		from := fresh(ladder(t), left, blocks)
		found := map[int]bool{}
		syncs := 0
		for ; ; syncs++ {
			end, went := from.cut(t, 1, syncs, whole, first()...)
			if !went {
				if end.gen(t) < 2 {
					t.Errorf("%d blocks: the log doesn't begin anew", blocks)
				}
				break
			}
			lasts := end.d.Lasts()
			for cut := 0; ; cut++ {
				x, _ := from.cut(t, 1, syncs, cut, first()...)
				same := x.d.Lasts() == lasts // no byte behind it makes any difference
				found[len(x.may)] = true
				x.run(t, 2, doing(note("behind")), step{commit: true}, doing(note("lost"))).run(t, 3).run(t, 4)
				if same {
					break
				}
			}
		}
		if syncs < 9 || len(found) < 4 {
			t.Errorf("%d blocks: %d Syncs, %v", blocks, syncs, found)
		}
	}
}

// P25.4: the power goes again and again: at each Sync of the first steps, at each of those that follow, and as the vault is opened.
func TestCutsOfCuts(t *testing.T) {
	from := fresh(ladder(t), left, 28)
	cuts := []int{0, 1, 5, 17, 40, 64, 65, 100, 150, 230, 300, 420, whole}
	r := rand.New(rand.NewSource(4))
	for sync := 0; ; sync++ {
		went := false
		for _, cut := range cuts {
			var x tale
			if x, went = from.cut(t, 1, sync, cut, first()...); !went {
				break
			}
			for again := 0; ; again++ {
				y, off := x.cut(t, 2, again, one(r, cuts...), then()[:r.Intn(4)]...)
				if !off {
					break
				}
				if z, off := y.cut(t, 3, r.Intn(4), one(r, cuts...), doing(note("z")), step{commit: true}); off {
					z.run(t, 4, doing(note("end")), step{commit: true}).run(t, 5)
				}
				y.run(t, 3, doing(note("y")), step{commit: true}).run(t, 4)
			}
		}
		if !went {
			break
		}
	}
}

// P25.4, P3: what follows may be cut at each Sync, too, with what was lent and settled.
func TestCutBehind(t *testing.T) {
	from := fresh(ladder(t), left, 40).run(t, 1, first()[:12]...)
	for sync := 0; ; sync++ {
		went := false
		for cut := 0; cut < 700; cut += 1 + cut%5 {
			var x tale
			if x, went = from.cut(t, 2, sync, cut, then()...); !went {
				break
			}
			x.run(t, 3, doing(note("behind")), step{commit: true}).run(t, 4)
		}
		if !went {
			break
		}
	}
}

// P25.4: where within a Commit a group begins to last: with its record's last byte, whole, though it has several deeds.
func TestWhereItLasts(t *testing.T) {
	p := ladder(t)
	groups := [][]deed.Deed{{note("1")}, laid(), {put("a", "2"), put("a", "3"), lend("q")}, {}, {note("4"), note("5")}}
	for cut := range 500 {
		x := begun(t, p, left, 80)
		ends := stands(x.p.image) % 64 // of the first block that is written
		want := x.p.s
		for _, l := range groups {
			x.does(t, l...)
			if ends += stands(group(t, l...)); cut >= ends {
				want = x.p.s
			}
		}
		x.d.Arm(0, cut)
		if code := x.v.Commit(); code != api.ErrPower {
			t.Fatal(code)
		}
		x.d.Up()
		opens(t, "cut at "+strconv.Itoa(cut), x, want)
	}
}

// P25.4: where within what lets the log begin anew that lasts: with the last byte of its head; ahead of that what was committed
// lasts, alone.
func TestWhereItLastsAnew(t *testing.T) {
	p := ladder(t)
	for sync := range 3 {
		for cut := range 130 {
			x := begun(t, p, left, 30)
			x.does(t, laid()...)
			x.commit(t, api.OK)
			want := x.p.s
			x.does(t, put("a", "waits"), lend("q"))
			l := slices.Repeat([]deed.Deed{put("a", letters(60))}, 6)
			x.d.Arm(sync, cut)
			got, at, code := x.v.All(l...)
			if code != api.ErrPower || at != 0 || len(got) != 0 || !store.Same(x.v.Parts(), x.p.s.Parts()) || x.v.Ready() {
				t.Fatalf("%d, %d, %+v", code, at, got)
			}
			if sync == 2 && cut >= 17 {
				want = x.p.s
				for _, d := range l {
					want, _, _ = want.Do(d)
				}
			}
			x.d.Up()
			opens(t, "sync "+strconv.Itoa(sync)+", cut at "+strconv.Itoa(cut), x, want)
		}
	}
}

// opens: a vault is opened as that store, of which nothing is lent any more.
func opens(t *testing.T, what string, x *pair, s store.Store) {
	t.Helper()
	woken, _, _ := s.Do(deed.Deed{Kind: deed.Wake, Tick: 9})
	v, code := Open(x.p.p, x.p.place, x.d, 9)
	if code != api.OK || !store.Same(v.Parts(), woken.Parts()) {
		t.Fatalf("%s: %d, %q, wanted %q", what, code, image.Bytes(v.Parts()), bytesOf(woken))
	}
}

// P25.4: rows of groups and Commits by chance, the power going by chance, many times, on one disk.
func TestAgainAndAgain(t *testing.T) {
	opened, cut := 0, 0
	for seed := range int64(24) {
		r := rand.New(rand.NewSource(seed))
		place := int(seed % 4)
		x := fresh(ladder(t), place, []int{500, 700, 4096}[seed%3])
		for n := range 30 {
			tick := uint64(n)
			x.d.Arm(r.Intn(12), one(r, r.Intn(100), r.Intn(2000), r.Intn(20000), whole))
			if x = x.thrown(t, r, tick); x.d.On() {
				opened++
				x.d.Down(r.Intn(100))
			} else {
				cut++
			}
			x.d.Up()
		}
		x.run(t, 40)
	}
	if opened < 50 || cut < 50 {
		t.Errorf("%d, %d", opened, cut)
	}
}

// thrown: a run of steps by chance, behind any store that may stand there.
func (x tale) thrown(t *testing.T, r *rand.Rand, tick uint64) tale {
	t.Helper()
	copied := x.copied(t)
	v, code := Open(x.p, x.place, copied.d, tick)
	if code != api.OK {
		t.Fatal(code)
	}
	s := store.With(x.p, x.place, v.Parts())
	var steps []step
	for range r.Intn(16) {
		if r.Intn(3) == 0 {
			steps = append(steps, step{commit: true})
			continue
		}
		var l []deed.Deed
		for range r.Intn(6) {
			var d deed.Deed
			d, s = done(r, s, tick)
			l = append(l, d)
		}
		steps = append(steps, doing(l...))
	}
	return x.run(t, tick, steps...)
}
