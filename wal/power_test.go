package wal

import (
	"math/rand"
	"slices"
	"testing"

	"stairwell/api"
	"stairwell/disk"
)

// deed is one call of a log: a Begin of an image, an Append of records, or, without both, a Commit.
type deed struct {
	image   string
	records []string
}

// begin, add, commit: deeds.
func begin(image string) deed    { return deed{image: image} }
func add(records ...string) deed { return deed{records: records} }
func commit() deed               { return deed{} }
func (x deed) isCommit() bool    { return x.image == "" && len(x.records) == 0 }
func (x deed) do(l *Log) api.Errno {
	switch {
	case x.image != "":
		return l.Begin(x.image)
	case x.isCommit():
		return l.Commit()
	}
	return l.Append(x.records...)
}

// past is what was done by a log.
type past struct {
	image     string   // that was begun last
	appended  []string // since
	committed int      // of these
	cut       string   // the image of a Begin that was cut off
}

// behind: what was done, when that was done, too, and said so.
func (p past) behind(x deed, code api.Errno) past {
	switch {
	case x.image != "" && code == api.OK:
		return past{image: x.image}
	case x.image != "":
		p.cut = x.image
	case code == api.OK && x.isCommit():
		p.committed = len(p.appended)
	case code == api.OK:
		p.appended = append(slices.Clip(p.appended), x.records...)
	}
	return p
}

// may: may Open tell that?
func (p past) may(image string, logged []string) bool {
	if p.cut != "" && image == p.cut && len(logged) == 0 {
		return true
	}
	n := len(logged)
	return image == p.image && n >= p.committed && n <= len(p.appended) && slices.Equal(logged, p.appended[:n])
}

// run: a log is opened on a disk, and deeds are done, till the power goes; what was done of them then.
func run(t *testing.T, d *disk.Disk, p past, deeds []deed) past {
	t.Helper()
	l, image, logged, code := Open(d)
	if code != api.OK || !p.may(image, logged) {
		t.Fatalf("Open: %s, %d records, %d, behind %s, cut %s, %d records, %d committed",
			short(image), len(logged), code, short(p.image), short(p.cut), len(p.appended), p.committed)
	}
	p = past{image: image, appended: logged, committed: len(logged)} // what lasts, and was told, is told again
	for _, x := range deeds {
		code := x.do(l)
		if code != api.OK && code != api.ErrPower {
			t.Fatalf("%s, %d records: %d", short(x.image), len(x.records), code)
		}
		p = p.behind(x, code)
		if code == api.ErrPower {
			break
		}
	}
	return p
}

// syncs: how many bytes wait at each Sync of deeds on a disk of so many blocks.
func syncs(blocks int, deeds []deed) []int {
	size := 64 * (blocks/2 - 1)
	var l []int
	stands, waits := 0, 0
	for _, x := range deeds {
		switch {
		case x.image != "":
			l = append(l, 64, size, 64)
			stands, waits = len(rowOf(x.image)), 0
		case !x.isCommit():
			waits += len(rowOf(x.records...))
		case waits > 0:
			from := stands / 64
			stands += waits
			waits = 0
			l = append(l, 64*((stands+63)/64-from))
		}
	}
	return l
}

// copied: a disk with the same bytes.
func copied(t *testing.T, d *disk.Disk) *disk.Disk {
	t.Helper()
	return laid(t, d.Lasts()).d
}

// cutOff: the deeds are done on a copy of a disk; the power goes at that Sync, behind so many bytes.
func cutOff(t *testing.T, from *disk.Disk, p past, deeds []deed, sync, cut int) (*disk.Disk, past) {
	t.Helper()
	d := copied(t, from)
	d.Arm(sync, cut)
	p = run(t, d, p, deeds)
	if d.On() {
		t.Fatalf("sync %d, cut %d: the power is there", sync, cut)
	}
	d.Up()
	return d, p
}

// deedsOf: images and records for a row of so many bytes, at each place of whose blocks records end.
func deedsOf(size int) []deed {
	return []deed{
		begin("one"), add("a"), commit(), add("b", "\x00"), add(noughts(size - 12 - 10 - 20 - 9)), commit(), commit(),
		begin(long(size - 9)), commit(),
		begin("two"), add("c"), add("d"), commit(), add("e"),
		begin(letters("\xa5", 20)), add(letters("\xa5", size-29-9)), commit(),
		begin("four"), add("f"), add("lost"),
	}
}

// P17.4: the power goes at each number of bytes within each step of Begin and within each Commit: Open tells what it may; and
// what it told once it tells again.
func TestEachCut(t *testing.T) {
	for _, blocks := range []int{4, 5, 6, 8} {
		size := 64 * (blocks/2 - 1)
		for _, s := range []string{noughts(64 * blocks), long(64 * blocks), letters("\xa5", 64*blocks), letters("STRW", 16*blocks)} {
			from := laid(t, s).d
			all := deedsOf(size)
			for sync, waits := range syncs(blocks, all) {
				for cut := range waits + 2 {
					d, p := cutOff(t, from, past{}, all, sync, cut)
					p = run(t, d, p, nil)
					run(t, d, p, []deed{begin("behind"), add("x"), commit(), add("y")})
					opens(t, d, "behind", []string{"x"}, genOf(t, d))
				}
			}
		}
	}
}

// genOf: what a log on that disk tells.
func genOf(t *testing.T, d *disk.Disk) uint64 {
	t.Helper()
	l, _, _, _ := Open(d)
	return l.Gen()
}

// P17.4: what is cut off is there whole, or not at all: up to the last byte of its head or record nothing of it is told.
func TestWhereItLasts(t *testing.T) {
	from := disk.New(6)
	run(t, from, past{}, []deed{begin("older"), begin("old"), add("a"), commit()})
	for sync := range 3 {
		for cut := range 130 {
			d, _ := cutOff(t, from, past{image: "old", appended: []string{"a"}}, []deed{begin("new")}, sync, cut)
			if sync == 2 && cut >= 17 {
				opens(t, d, "new", nil, 3)
			} else {
				opens(t, d, "old", []string{"a"}, 2)
			}
		}
	}
	l, _, _, _ := Open(from)
	said(t, "Begin", l.Begin("image"), api.OK) // 14 bytes
	said(t, "Append", l.Append("a", long(60), "b"), api.OK)
	was := from.Lasts()
	for cut := range 130 {
		d := laid(t, was).d
		other, _, _, _ := Open(d)
		said(t, "Begin", other.Begin("image"), api.OK)
		said(t, "Append", other.Append("a", long(60), "b"), api.OK)
		d.Arm(0, cut)
		said(t, "Commit", other.Commit(), api.ErrPower)
		d.Up()
		var want []string
		for _, one := range []struct {
			record string
			end    int
		}{{"a", 24}, {long(60), 93}, {"b", 103}} {
			if cut >= one.end {
				want = append(want, one.record)
			}
		}
		opens(t, d, "image", want, 4)
	}
}

// P17.4: the power goes again and again: at each cut of the first deeds, and at some of those that follow each of them.
func TestCutsOfCuts(t *testing.T) {
	first := []deed{begin("one"), add("a"), commit(), begin("two"), add("b", "c"), commit(), begin("three")}
	then := []deed{begin("four"), add("d"), commit(), begin("five"), add("e"), commit()}
	from := disk.New(4)
	for sync, waits := range syncs(4, first) {
		for cut := 0; cut <= waits; cut += 1 + cut%3 {
			d, p := cutOff(t, from, past{}, first, sync, cut)
			for again, more := range syncs(4, then) {
				for _, cut := range []int{0, 1, 3, 4, 5, 11, 12, 15, 16, 17, 18, 22, 23, more} {
					other, q := cutOff(t, d, p, then, again, cut)
					q = run(t, other, q, []deed{begin("last"), add("f"), commit(), add("g")})
					run(t, other, q, nil)
				}
			}
		}
	}
}

// anyOf: a text by chance, of at most so many bytes.
func anyOf(r *rand.Rand, most int) string {
	b := make([]byte, 1+r.Intn(most))
	r.Read(b)
	return string(b)
}

// P17.4: rows of deeds by chance, the power going by chance, many times, on one disk.
func TestAgainAndAgain(t *testing.T) {
	for seed := range int64(150) {
		r := rand.New(rand.NewSource(seed))
		blocks := 4 + r.Intn(8)
		s := make([]byte, 64*blocks)
		if seed%2 == 0 {
			r.Read(s)
		}
		d := laid(t, string(s)).d
		var p past
		for range 60 {
			deeds := []deed{begin(anyOf(r, 20))}
			for size := 64*(blocks/2-1) - 9 - 20; ; {
				record := anyOf(r, 30)
				if size -= 9 + len(record); size < 0 || r.Intn(6) == 0 {
					break
				}
				deeds = append(deeds, add(record))
				if r.Intn(2) == 0 {
					deeds = append(deeds, commit())
				}
			}
			d.Arm(r.Intn(7), r.Intn(200))
			p = run(t, d, p, deeds)
			d.Down(r.Intn(100))
			d.Up()
		}
		run(t, d, p, nil)
	}
}
