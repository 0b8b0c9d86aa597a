package wal

import (
	"math"
	"slices"
	"testing"

	"stairwell/api"
	"stairwell/disk"
)

// said: a call answered that.
func said(t *testing.T, what string, got, want api.Errno) {
	t.Helper()
	if got != want {
		t.Errorf("%s: %d, wanted %d", what, got, want)
	}
}

// tells: what a log is.
func tells(t *testing.T, l *Log, ready bool, room int, gen uint64) {
	t.Helper()
	if l.Ready() != ready || l.Room() != room || l.Gen() != gen {
		t.Errorf("ready %v, room %d, generation %d, wanted %v, %d, %d", l.Ready(), l.Room(), l.Gen(), ready, room, gen)
	}
}

// lasts: of a disk, on which nothing waits.
func lasts(t *testing.T, d *disk.Disk, want string) {
	t.Helper()
	if got := d.Lasts(); got != want || d.Waits() != 0 {
		t.Errorf("%d wait; %s", d.Waits(), apart(got, want))
	}
}

// opens: the disk is opened, and that stands on it; nothing is written.
func opens(t *testing.T, d *disk.Disk, image string, logged []string, gen uint64) *Log {
	t.Helper()
	was := d.Lasts()
	l, gotImage, gotLogged, code := Open(d)
	if l == nil || gotImage != image || !slices.Equal(gotLogged, logged) || code != api.OK {
		t.Fatalf("%s, %d records, %d, wanted %s, %d records", short(gotImage), len(gotLogged), code, short(image), len(logged))
	}
	tells(t, l, false, 0, gen)
	lasts(t, d, was)
	return l
}

// refuses: the disk can't be opened; nothing is written.
func refuses(t *testing.T, d *disk.Disk, want api.Errno) {
	t.Helper()
	was := d.Lasts()
	l, image, logged, code := Open(d)
	if l != nil || image != "" || len(logged) > 0 || code != want {
		t.Errorf("%d blocks: %v, %s, %d records, %d, wanted %d", d.Blocks(), l, short(image), len(logged), code, want)
	}
	lasts(t, d, was)
}

// P17.1: each error of Open, and which of two comes first.
func TestOpenErrors(t *testing.T) {
	refuses(t, nil, api.ErrNil)
	for _, n := range []int{0, 1, 2, 3, 4, 5, 7, 12, 4096} {
		d := disk.New(n)
		if n < 4 {
			refuses(t, d, api.ErrRange)
		} else {
			opens(t, d, "", nil, 0)
		}
		d.Down(0)
		refuses(t, d, api.ErrPower)
		d.Up()
		if n < 4 {
			refuses(t, d, api.ErrRange)
		} else {
			opens(t, d, "", nil, 0)
		}
	}
	short := laid(t, areaOf(1, headOf(1), "")+areaOf(1, headOf(2), "")+rowOf(long(55)))
	refuses(t, short.d, api.ErrRange)
}

// P17.1, P17.2: the document's example, and what it says of its disk.
func TestExample(t *testing.T) {
	d := disk.New(12)
	l := opens(t, d, "", nil, 0)
	said(t, "Begin", l.Begin("ab"), api.OK)
	tells(t, l, true, 309, 1)
	lasts(t, d, areaOf(6, "STRW\x00\x00\x00\x00\x00\x00\x00\x01"+sum("STRW\x00\x00\x00\x00\x00\x00\x00\x01")+"\xa5", "\x00\x00\x00\x02ab"+"\x6D\x1C\x2F\x5F"+"\xa5")+areaOf(6, "", ""))
	opens(t, d, "ab", nil, 1)
}

// P17.1 to P17.3: an image begun, records appended and committed, the disk opened anew, an image begun again.
func TestOrdinary(t *testing.T) {
	d := disk.New(12)
	l := opens(t, d, "", nil, 0)
	said(t, "Begin", l.Begin("first"), api.OK)
	said(t, "Append", l.Append("a", "bc"), api.OK)
	said(t, "Append", l.Append("def"), api.OK)
	opens(t, d, "first", nil, 1)
	said(t, "Commit", l.Commit(), api.OK)
	tells(t, l, true, 320-14-10-11-12, 1)
	opens(t, d, "first", []string{"a", "bc", "def"}, 1)
	said(t, "Append", l.Append(long(90)), api.OK)
	said(t, "Commit", l.Commit(), api.OK)
	lasts(t, d, areaOf(6, headOf(1), rowOf("first", "a", "bc", "def", long(90)))+areaOf(6, "", ""))

	l = opens(t, d, "first", []string{"a", "bc", "def", long(90)}, 1)
	said(t, "Append", l.Append("x"), api.ErrOrder)
	said(t, "Begin", l.Begin("second"), api.OK)
	tells(t, l, true, 320-15, 2)
	said(t, "Append", l.Append("g"), api.OK)
	said(t, "Commit", l.Commit(), api.OK)
	lasts(t, d, areaOf(6, headOf(1), rowOf("first", "a", "bc", "def", long(90)))+areaOf(6, headOf(2), rowOf("second", "g")))
	opens(t, d, "second", []string{"g"}, 2)

	said(t, "Append", l.Append("forgotten"), api.OK)
	said(t, "Begin", l.Begin("third"), api.OK)
	said(t, "Commit", l.Commit(), api.OK)
	lasts(t, d, areaOf(6, headOf(3), rowOf("third"))+areaOf(6, headOf(2), rowOf("second", "g")))
	opens(t, d, "third", nil, 3)
}

// state is what may stand in an area.
type state struct {
	front, row string
	there      bool // a head
	gen        uint64
	records    []string
}

// states: areas of a row of 128 bytes, right ones and others.
func states() []state {
	full := long(128 - 9)
	l := []state{
		{"", "", false, 0, nil},
		{long(64), long(128), false, 0, nil},
		{"", rowOf("no head"), false, 0, nil},
		{"strw" + headOf(3)[4:], rowOf("no mark"), false, 0, nil},
		{"\x00" + headOf(3), rowOf("not at the front"), false, 0, nil},
		{"STRV" + headOf(3)[4:12] + headOf(3), rowOf("behind another mark"), false, 0, nil},
		{headOf(3)[:16], rowOf("cut"), false, 0, nil},
		{headOf(3)[:16] + "\xa4", rowOf("another last byte"), false, 0, nil},
		{headOf(3)[:12] + sum("STRW") + "\xa5", rowOf("another sum"), false, 0, nil},
	}
	for _, gen := range []uint64{0, 1, 2, 7, 255, 256, 1 << 32, 1 << 63, math.MaxUint64 - 1, math.MaxUint64} {
		l = append(l,
			state{headOf(gen), "", true, gen, nil},
			state{headOf(gen), rowOf("sum")[:7] + noughts(4) + "\xa5", true, gen, nil},
			state{headOf(gen), "\x00" + rowOf("later"), true, gen, nil},
			state{headOf(gen), rowOf(""), true, gen, nil},
			state{headOf(gen), rowOf("image"), true, gen, []string{"image"}},
			state{padded(headOf(gen), 20) + long(44), rowOf("image", "a", "bc") + long(40), true, gen, []string{"image", "a", "bc"}},
		)
	}
	return append(l,
		state{headOf(2), rowOf(full), true, 2, []string{full}},
		state{headOf(2), rowOf(full + "x")[:128], true, 2, nil},
		state{headOf(2), rowOf("image", full[:110-5])[:128], true, 2, []string{"image", full[:110-5]}},
		state{headOf(2), rowOf("image", full[:110-4])[:128], true, 2, []string{"image"}},
		state{headOf(2), rowOf(long(55), long(55)), true, 2, []string{long(55), long(55)}},
		state{headOf(2), rowOf("image") + noughts(1) + rowOf("behind a nought"), true, 2, []string{"image"}},
	)
}

// P17.1: of which area Open tells, whatever stands in both.
func TestOpenAreas(t *testing.T) {
	for _, a := range states() {
		for _, b := range states() {
			x := laid(t, areaOf(3, a.front, a.row)+areaOf(3, b.front, b.row))
			told := a
			if len(a.records) == 0 || len(b.records) > 0 && b.gen > a.gen {
				told = b
			}
			if len(told.records) == 0 {
				told.records = []string{""}
			}
			opens(t, x.d, told.records[0], told.records[1:], max(a.gen, b.gen))
		}
	}
}

// P17.1: each byte of a head turned to each other one: there is no head.
func TestHeadBytes(t *testing.T) {
	for _, gen := range []uint64{9, 0x0102030405060708} {
		right := headOf(gen)
		for at := range len(right) {
			for b := range 256 {
				if byte(b) == right[at] {
					continue
				}
				turned := right[:at] + string([]byte{byte(b)}) + right[at+1:]
				one := areaOf(2, turned, rowOf("one"))
				opens(t, laid(t, one+areaOf(2, "", "")).d, "", nil, 0)
				opens(t, laid(t, areaOf(2, headOf(4), rowOf("other"))+one).d, "other", nil, 4)
			}
		}
		for at := 17; at < 64; at++ {
			behind := padded(right, at) + letters("\xff", 64-at)
			opens(t, laid(t, areaOf(2, headOf(4), rowOf("other"))+areaOf(2, behind, rowOf("one"))).d, "one", nil, gen)
		}
	}
}

// P17.1: an area's row ends with the area: a record that would go on in the next blocks isn't one.
func TestOpenEnds(t *testing.T) {
	for _, n := range []int{4, 5, 6, 7, 8, 9} {
		half := n / 2
		size := 64 * (half - 1)
		for _, more := range []int{-1, 0, 1, 2, 10, 60} {
			record := long(size - 9 + more)
			row := rowOf(record)
			s := padded(headOf(1), 64) + padded(row, 64*(2*n))
			want := record
			if more > 0 {
				want = ""
			}
			opens(t, laid(t, s[:64*n]).d, want, nil, 1)
			s = noughts(64*half) + padded(headOf(1), 64) + padded(row, 64*(2*n))
			opens(t, laid(t, s[:64*n]).d, want, nil, 1)
			if more > 0 { // the image is right, what was logged behind it would go on
				s = padded(headOf(1), 64) + padded(rowOf("i", long(size-9-10+more)), 64*(2*n))
				opens(t, laid(t, s[:64*n]).d, "i", nil, 1)
			}
		}
	}
}

// P17.1, P17.2: where the areas are, of each number of blocks; what stands behind both stays.
func TestAreas(t *testing.T) {
	for _, n := range []int{4, 5, 6, 7, 12, 13, 64, 129, 4095, 4096} {
		half := n / 2
		size := 64 * (half - 1)
		rest := letters("\xee", 64*(n-2*half))
		x := laid(t, letters("\xee", 64*n))
		l := opens(t, x.d, "", nil, 0)
		first, second := long(size-9), long(min(size-9, 20))
		said(t, "Begin", l.Begin(first), api.OK)
		tells(t, l, true, 0, 1)
		lasts(t, x.d, areaOf(half, headOf(1), rowOf(first))+letters("\xee", 64*half)+rest)
		said(t, "Begin", l.Begin(second), api.OK)
		tells(t, l, true, size-9-len(second), 2)
		lasts(t, x.d, areaOf(half, headOf(1), rowOf(first))+areaOf(half, headOf(2), rowOf(second))+rest)
		said(t, "Begin", l.Begin("x"), api.OK)
		lasts(t, x.d, areaOf(half, headOf(3), rowOf("x"))+areaOf(half, headOf(2), rowOf(second))+rest)
		opens(t, x.d, "x", nil, 3)
	}
}

// P17.1, P17.2: a log begins in the area that isn't its own, with a generation above both heads'.
func TestBeginArea(t *testing.T) {
	for _, a := range states() {
		for _, b := range states() {
			gen := max(a.gen, b.gen)
			if gen == math.MaxUint64 {
				continue
			}
			old, other := areaOf(3, a.front, a.row), areaOf(3, b.front, b.row)
			x := laid(t, old+other)
			l, _, _, _ := Open(x.d)
			said(t, "Begin", l.Begin("new"), api.OK)
			tells(t, l, true, 128-12, gen+1)
			begun := areaOf(3, headOf(gen+1), rowOf("new"))
			if len(a.records) > 0 && (len(b.records) == 0 || a.gen >= b.gen) {
				lasts(t, x.d, old+begun)
			} else {
				lasts(t, x.d, begun+other)
			}
			opens(t, x.d, "new", nil, gen+1)
		}
	}
}

// P17.2: images of all lengths, that have room, and that have none.
func TestImages(t *testing.T) {
	for _, n := range []int{4, 6, 7, 12} {
		size := 64 * (n/2 - 1)
		for length := range size + 70 {
			x := opened(t, letters("\x77", 64*n))
			want := api.OK
			switch {
			case length == 0:
				want = api.ErrEmpty
			case length+9 > size:
				want = api.ErrSpace
			}
			said(t, "Begin", x.begin(t, long(length)), want)
			if want == api.OK {
				tells(t, x.l, true, size-9-length, 1)
				opens(t, x.d, long(length), nil, 1)
			} else {
				tells(t, x.l, false, 0, 0)
				lasts(t, x.d, letters("\x77", 64*n))
			}
		}
	}
	d := disk.New(4096) // no row has room for the longest record
	l := opens(t, d, "", nil, 0)
	for length, want := range map[int]api.Errno{2047*64 - 9: api.OK, 2047*64 - 8: api.ErrSpace, most: api.ErrSpace, most + 1: api.ErrLong, 2 * most: api.ErrLong} {
		said(t, "Begin", l.Begin(long(length)), want)
	}
	opens(t, d, long(2047*64-9), nil, 1)
}

// asked: each call of a log says what is wanted, and changes nothing.
func asked(t *testing.T, x *pair, want api.Errno, calls ...func() api.Errno) {
	t.Helper()
	was, gen, ready, room := x.d.Lasts(), x.l.Gen(), x.l.Ready(), x.l.Room()
	for _, call := range calls {
		said(t, "a call", call(), want)
		tells(t, x.l, ready, room, gen)
		lasts(t, x.d, was)
	}
}

// begins, appends, commits: a call for later.
func begins(l *Log, image string) func() api.Errno {
	return func() api.Errno { return l.Begin(image) }
}

func appends(l *Log, records ...string) func() api.Errno {
	return func() api.Errno { return l.Append(records...) }
}

func commits(l *Log) func() api.Errno {
	return func() api.Errno { return l.Commit() }
}

// P17.2: each error of Begin, and which of two comes first; beside it nothing is written, and what waits waits.
func TestBeginErrors(t *testing.T) {
	for _, gen := range []uint64{0, 5, math.MaxUint64 - 1, math.MaxUint64} {
		x := opened(t, areaOf(2, headOf(gen), rowOf("old"))+areaOf(2, "", ""))
		asked(t, x, api.ErrEmpty, begins(x.l, ""))
		asked(t, x, api.ErrLong, begins(x.l, long(most+1)))
		asked(t, x, api.ErrSpace, begins(x.l, long(56)), begins(x.l, long(most)))
		if gen == math.MaxUint64 {
			asked(t, x, api.ErrEnd, begins(x.l, long(55)), begins(x.l, "a"))
			continue
		}
		said(t, "Begin", x.l.Begin(long(30)), api.OK)
		said(t, "Append", x.l.Append("a"), api.OK)
		asked(t, x, api.ErrEmpty, begins(x.l, ""))
		asked(t, x, api.ErrLong, begins(x.l, long(most+1)))
		asked(t, x, api.ErrSpace, begins(x.l, long(56)), begins(x.l, long(most)))
		if gen == math.MaxUint64-1 {
			asked(t, x, api.ErrEnd, begins(x.l, long(55)), begins(x.l, "a"))
		}
		said(t, "Commit", x.l.Commit(), api.OK)
		opens(t, x.d, long(30), []string{"a"}, gen+1)
	}
	for _, s := range []string{areaOf(2, headOf(math.MaxUint64), "") + areaOf(2, headOf(3), rowOf("old")), areaOf(2, "", "") + areaOf(2, headOf(math.MaxUint64), "")} {
		x := opened(t, s)
		asked(t, x, api.ErrSpace, begins(x.l, long(56)))
		asked(t, x, api.ErrEnd, begins(x.l, "a"))
		asked(t, x, api.ErrOrder, appends(x.l, "a"), commits(x.l))
	}
}

// P17.2: of a disk that is off what can be told without it comes ahead; then the log is broken.
func TestOff(t *testing.T) {
	for _, ready := range []bool{false, true} {
		x := opened(t, areaOf(2, headOf(8), rowOf("old"))+areaOf(2, "", ""))
		gen := uint64(8)
		if ready {
			said(t, "Begin", x.l.Begin(long(30)), api.OK)
			gen = 9
		}
		x.d.Down(0)
		asked(t, x, api.ErrEmpty, begins(x.l, ""))
		asked(t, x, api.ErrLong, begins(x.l, long(most+1)))
		asked(t, x, api.ErrSpace, begins(x.l, long(56)))
		if ready {
			asked(t, x, api.OK, appends(x.l), commits(x.l))
			said(t, "Append", x.l.Append("a"), api.OK)
			tells(t, x.l, true, 64-39-10, gen)
		} else {
			asked(t, x, api.ErrOrder, appends(x.l, "a"), commits(x.l))
		}
		was := x.d.Lasts()
		said(t, "Begin", x.l.Begin("new"), api.ErrPower)
		lasts(t, x.d, was)
		stays(t, x, gen)
	}
	x := opened(t, noughts(4*64))
	said(t, "Begin", x.l.Begin("image"), api.OK)
	said(t, "Append", x.l.Append("a"), api.OK)
	x.d.Down(0)
	said(t, "Commit", x.l.Commit(), api.ErrPower)
	stays(t, x, 1)
	opens(t, x.d, "image", nil, 1)
}

// stays: a log is broken, and stays so, whatever it is asked, and whether the disk is on or not.
func stays(t *testing.T, x *pair, gen uint64) {
	t.Helper()
	tells(t, x.l, false, 0, gen)
	for range 2 {
		asked(t, x, api.ErrBroken, begins(x.l, "a"), begins(x.l, ""), begins(x.l, long(most+1)), begins(x.l, long(most)),
			appends(x.l), appends(x.l, "a"), appends(x.l, ""), appends(x.l, long(most)), commits(x.l))
		x.d.Up()
	}
}

// P17.3: behind an error of the disk each call is ErrBroken, whichever step it was in, and however much was done yet.
func TestBroken(t *testing.T) {
	for syncs := range 3 {
		for _, cut := range []int{0, 1, 16, 17, 64, 1000} {
			x := opened(t, areaOf(2, headOf(8), rowOf("old"))+areaOf(2, headOf(7), rowOf("older")))
			x.d.Arm(syncs, cut)
			said(t, "Begin", x.l.Begin("new"), api.ErrPower)
			stays(t, x, 8)

			y := opened(t, noughts(4*64))
			said(t, "Begin", y.l.Begin("image"), api.OK)
			said(t, "Append", y.l.Append("a"), api.OK)
			y.d.Arm(syncs, cut)
			said(t, "Begin", y.l.Begin("new"), api.ErrPower)
			stays(t, y, 1)

			z := opened(t, noughts(4*64))
			said(t, "Begin", z.l.Begin("image"), api.OK)
			z.d.Arm(syncs, cut)
			for range syncs {
				said(t, "Append", z.l.Append("a"), api.OK)
				said(t, "Commit", z.l.Commit(), api.OK)
			}
			said(t, "Append", z.l.Append("a"), api.OK)
			said(t, "Commit", z.l.Commit(), api.ErrPower)
			stays(t, z, 1)
		}
	}
}

// P17.3: each error of Append and Commit, and which of two comes first; beside it nothing waits that didn't.
func TestAppendErrors(t *testing.T) {
	x := opened(t, areaOf(3, headOf(1), rowOf("old", "a"))+areaOf(3, "", ""))
	asked(t, x, api.ErrOrder, appends(x.l), appends(x.l, "a"), appends(x.l, ""), appends(x.l, long(most+1)), appends(x.l, long(most)), commits(x.l))
	said(t, "Begin", x.l.Begin(long(40)), api.OK)
	said(t, "Append", x.l.Append("ab"), api.OK)
	room := 128 - 49 - 11
	tells(t, x.l, true, room, 2)
	asked(t, x, api.ErrEmpty, appends(x.l, ""), appends(x.l, "a", ""), appends(x.l, "", "a"), appends(x.l, "", long(most+1)), appends(x.l, long(most), ""))
	asked(t, x, api.ErrLong, appends(x.l, long(most+1)), appends(x.l, "a", long(most+1), ""), appends(x.l, long(most+1), ""))
	asked(t, x, api.ErrSpace, appends(x.l, long(room-8)), appends(x.l, long(most)), appends(x.l, long(room-9), "a"),
		appends(x.l, long(30), long(room-9-39+1)), appends(x.l, "a", "b", "c", "d", "e", "f", "g"))
	said(t, "Append", x.l.Append(long(30), long(room-39-9)), api.OK)
	tells(t, x.l, true, 0, 2)
	asked(t, x, api.ErrSpace, appends(x.l, "a"))
	asked(t, x, api.ErrEmpty, appends(x.l, ""))
	asked(t, x, api.OK, appends(x.l))
	said(t, "Commit", x.l.Commit(), api.OK)
	opens(t, x.d, long(40), []string{"ab", long(30), long(room - 39 - 9)}, 2)
	asked(t, x, api.ErrSpace, appends(x.l, "a"))
	asked(t, x, api.OK, appends(x.l), commits(x.l))
}

// P17.3: records of all lengths, appended at all places of a block: that end at a block's end, within one, and over several.
func TestCommits(t *testing.T) {
	for image := 1; image < 70; image++ {
		for _, length := range []int{1, 10, 45, 46, 55, 63, 64, 65, 119, 120, 200} {
			x := opened(t, letters("\xdd", 64*13))
			said(t, "Begin", x.begin(t, long(image)), api.OK)
			for x.p.room() >= length+9 {
				said(t, "Append", x.append(t, long(length)), api.OK)
				said(t, "Commit", x.commit(t), api.OK)
			}
			if room := x.p.room(); room > 9 {
				said(t, "Append", x.append(t, long(room-8)), api.ErrSpace)
				said(t, "Append", x.append(t, long(room-9)), api.OK)
			}
			said(t, "Commit", x.commit(t), api.OK)
			x.open(t)
		}
	}
}

// P17.3: all blocks in which something stands that waits are written, whole; behind it there are noughts, whatever was there.
func TestCommitBlocks(t *testing.T) {
	for _, image := range []int{1, 30, 54, 55, 56, 100, 119} {
		for _, length := range []int{1, 40, 64, 100} {
			d := disk.New(14)
			l := opens(t, d, "", nil, 0)
			said(t, "Begin", l.Begin(long(image)), api.OK)
			row := rowOf(long(image))
			junk := row + letters("j", 384-len(row))
			for at := range 6 {
				said(t, "Write", d.Write(1+at, junk[64*at:64*at+64]), api.OK)
			}
			said(t, "Append", l.Append(long(length)), api.OK)
			said(t, "Commit", l.Commit(), api.OK)
			row = rowOf(long(image), long(length))
			whole := padded(row, (len(row)+63)/64*64)
			lasts(t, d, areaOf(7, headOf(1), whole+junk[len(whole):])+areaOf(7, "", ""))
		}
	}
}

// P17.3: how many are committed at once is not to be seen.
func TestCommitsAtOnce(t *testing.T) {
	records := []string{"a", long(50), "bc", long(64), long(100), long(7), "d", long(3), long(20)}
	last := ""
	for _, every := range []int{1, 2, 3, 5, 9} {
		d := disk.New(14)
		l := opens(t, d, "", nil, 0)
		said(t, "Begin", l.Begin("image"), api.OK)
		for some := range slices.Chunk(records, every) {
			said(t, "Append", l.Append(some...), api.OK)
			said(t, "Commit", l.Commit(), api.OK)
		}
		if last == "" {
			last = d.Lasts()
		}
		lasts(t, d, last)
		opens(t, d, "image", records, 1)
	}
}

// P17.3: a Commit where nothing waits asks nothing of the disk: it is no Sync.
func TestCommitNothing(t *testing.T) {
	x := opened(t, noughts(4*64))
	said(t, "Begin", x.l.Begin("image"), api.OK)
	x.d.Arm(1, 0)
	asked(t, x, api.OK, commits(x.l), appends(x.l), commits(x.l), appends(x.l, []string{}...), commits(x.l), commits(x.l))
	said(t, "Append", x.l.Append("a"), api.OK)
	said(t, "Commit", x.l.Commit(), api.OK)
	asked(t, x, api.OK, commits(x.l), commits(x.l))
	said(t, "Append", x.l.Append("b"), api.OK)
	said(t, "the second Sync", x.l.Commit(), api.ErrPower)
}

// P17.3: what waits isn't written till it is committed.
func TestAppendWaits(t *testing.T) {
	x := opened(t, noughts(12*64))
	said(t, "Begin", x.l.Begin("image"), api.OK)
	was := x.d.Lasts()
	for n := range 20 {
		said(t, "Append", x.l.Append("a"), api.OK)
		tells(t, x.l, true, 320-14-10*(n+1), 1)
		lasts(t, x.d, was)
		opens(t, x.d, "image", nil, 1)
	}
}

// P17.1 to P17.3: of nil ErrNil, 0, false, whatever it is asked.
func TestNil(t *testing.T) {
	var l *Log
	for range 2 {
		for _, call := range []func() api.Errno{begins(l, "a"), begins(l, ""), begins(l, long(most+1)), appends(l), appends(l, "a"), appends(l, ""), appends(l, long(most+1)), commits(l)} {
			said(t, "of nil", call(), api.ErrNil)
		}
		tells(t, l, false, 0, 0)
	}
}

// P17.1: the log is on that disk itself: two on one disk see what the other one wrote.
func TestDiskItself(t *testing.T) {
	d, other := disk.New(6), disk.New(6)
	one := opens(t, d, "", nil, 0)
	said(t, "Begin", one.Begin("one"), api.OK)
	two := opens(t, d, "one", nil, 1)
	said(t, "Begin", two.Begin("two"), api.OK)
	opens(t, d, "two", nil, 2)
	opens(t, other, "", nil, 0)
	d.Down(0)
	said(t, "Begin", two.Begin("three"), api.ErrPower)
	tells(t, one, true, 128-12, 1)
	said(t, "Begin", one.Begin("three"), api.ErrPower)
}

// Memory: what is handed in isn't changed, nor kept; what is told is new.
func TestMemory(t *testing.T) {
	x := opened(t, noughts(12*64))
	said(t, "Begin", x.l.Begin("image"), api.OK)
	spare := []string{"a", "bc", "d", "spare"}
	was := slices.Clone(spare)
	said(t, "Append", x.l.Append(spare[:3]...), api.OK)
	if !slices.Equal(spare, was) {
		t.Errorf("%q", spare)
	}
	spare[0], spare[1] = "other", ""
	said(t, "Commit", x.l.Commit(), api.OK)
	opens(t, x.d, "image", was[:3], 1)

	_, _, one, _ := Open(x.d)
	_, _, two, _ := Open(x.d)
	one[0] = "own"
	if one = append(one[:1], "more"); !slices.Equal(two, was[:3]) || len(one) != 2 {
		t.Errorf("%q", two)
	}
	opens(t, x.d, "image", was[:3], 1)
}
