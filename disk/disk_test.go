package disk

import (
	"math"
	"math/rand"
	"strconv"
	"strings"
	"testing"

	"stairwell/api"
)

// long: a text of so many bytes, none of them a nought.
func long(n int) string {
	b := make([]byte, n)
	for at := range b {
		b[at] = byte(at*37%255 + 1)
	}
	return string(b)
}

// letters: a text of so many of one letter.
func letters(letter string, n int) string { return strings.Repeat(letter, n) }

// noughts: so many.
func noughts(n int) string { return letters("\x00", n) }

// full: a block with that at its front, behind it noughts.
func full(front string) string { return front + noughts(64-len(front)) }

// row is a write.
type row struct {
	at   int
	data string
}

// spot is a byte that waits, for its place on the whole disk.
type spot struct {
	place int
	b     byte
}

// model is a disk byte by byte, as the document's words have it.
type model struct {
	lasts      []byte
	waits      []spot
	off        bool
	armed      bool
	syncs, cut int
}

// plain: a model of so many blocks.
func plain(blocks int) *model {
	return &model{lasts: make([]byte, 64*min(max(blocks, 0), 4096))}
}

func (m *model) find(at int) api.Errno {
	switch {
	case m.off:
		return api.ErrPower
	case at < 0 || at >= len(m.lasts)/64:
		return api.ErrRange
	}
	return api.OK
}

func (m *model) read(at int) (string, api.Errno) {
	if code := m.find(at); code != api.OK {
		return "", code
	}
	all := append([]byte(nil), m.lasts...)
	for _, s := range m.waits {
		all[s.place] = s.b
	}
	return string(all[64*at : 64*at+64]), api.OK
}

func (m *model) write(at int, data string) api.Errno {
	if code := m.find(at); code != api.OK {
		return code
	}
	if len(data) > 64 {
		return api.ErrLong
	}
	for n := range len(data) {
		m.waits = append(m.waits, spot{64*at + n, data[n]})
	}
	return api.OK
}

func (m *model) down(cut int) {
	if m.off {
		return
	}
	for n, s := range m.waits {
		if n < cut {
			m.lasts[s.place] = s.b
		}
	}
	m.waits, m.off = nil, true
}

func (m *model) sync() api.Errno {
	if m.off {
		return api.ErrPower
	}
	if m.armed && m.syncs <= 0 {
		m.down(m.cut)
		return api.ErrPower
	}
	m.down(len(m.waits))
	m.off = false
	m.syncs--
	return api.OK
}

func (m *model) arm(syncs, cut int) {
	if !m.off {
		m.armed, m.syncs, m.cut = true, syncs, cut
	}
}

func (m *model) up() {
	if m.off {
		m.off, m.armed = false, false
	}
}

// alike: what a disk tells in all is what the model does.
func alike(t *testing.T, what string, d *Disk, m *model) {
	t.Helper()
	blocks := len(m.lasts) / 64
	if d.Blocks() != blocks || d.On() == m.off || d.Waits() != len(m.waits) || d.Lasts() != string(m.lasts) {
		t.Fatalf("%s: %d blocks, on %v, %d wait, %q lasts; wanted %d, %v, %d, %q",
			what, d.Blocks(), d.On(), d.Waits(), d.Lasts(), blocks, !m.off, len(m.waits), m.lasts)
	}
	for at := -1; at <= blocks; at++ {
		want, wanted := m.read(at)
		if got, code := d.Read(at); got != want || code != wanted {
			t.Fatalf("%s: at %d %q, %d, wanted %q, %d", what, at, got, code, want, wanted)
		}
	}
}

// said: a call answered that.
func said(t *testing.T, what string, got, want api.Errno) {
	t.Helper()
	if got != want {
		t.Errorf("%s: %d, wanted %d", what, got, want)
	}
}

// read: at a block there is that.
func read(t *testing.T, d *Disk, at int, want string, wanted api.Errno) {
	t.Helper()
	if got, code := d.Read(at); got != want || code != wanted {
		t.Errorf("at %d: %q, %d, wanted %q, %d", at, got, code, want, wanted)
	}
}

// lasts: of all blocks that does.
func lasts(t *testing.T, d *Disk, want string) {
	t.Helper()
	if got := d.Lasts(); got != want {
		t.Errorf("%q lasts, wanted %q", got, want)
	}
}

// waits: so many bytes do, of a disk that is on.
func waits(t *testing.T, d *Disk, want int) {
	t.Helper()
	if got := d.Waits(); got != want || !d.On() {
		t.Errorf("%d wait, on %v, wanted %d", got, d.On(), want)
	}
}

// gone: the power is; nothing waits, and nothing can be asked.
func gone(t *testing.T, d *Disk) {
	t.Helper()
	if d.On() || d.Waits() != 0 {
		t.Errorf("on %v, %d wait", d.On(), d.Waits())
	}
	was := d.Lasts()
	read(t, d, 0, "", api.ErrPower)
	said(t, "Write", d.Write(0, "gone"), api.ErrPower)
	said(t, "Sync", d.Sync(), api.ErrPower)
	if d.On() || d.Waits() != 0 {
		t.Errorf("asked: on %v, %d wait", d.On(), d.Waits())
	}
	lasts(t, d, was)
}

// written: a disk of so many blocks, on which these writes wait.
func written(t *testing.T, blocks int, rows []row) *Disk {
	t.Helper()
	d := New(blocks)
	for _, one := range rows {
		if code := d.Write(one.at, one.data); code != api.OK {
			t.Fatalf("%d, %q: %d", one.at, one.data, code)
		}
	}
	return d
}

// P15.1: a new disk has as many blocks as may be, all noughts; it is on, nothing waits.
func TestNew(t *testing.T) {
	if Size != 64 || MaxBlocks != 4096 {
		t.Errorf("%d, %d", Size, MaxBlocks)
	}
	for _, c := range []struct{ blocks, want int }{
		{math.MinInt, 0}, {-4096, 0}, {-1, 0}, {0, 0}, {1, 1}, {2, 2}, {63, 63}, {64, 64}, {65, 65},
		{4095, 4095}, {4096, 4096}, {4097, 4096}, {8192, 4096}, {math.MaxInt, 4096},
	} {
		d := New(c.blocks)
		if got := d.Blocks(); got != c.want {
			t.Errorf("%d: %d blocks, wanted %d", c.blocks, got, c.want)
		}
		waits(t, d, 0)
		lasts(t, d, noughts(64*c.want))
		for _, at := range []int{0, c.want / 2, c.want - 1} {
			if c.want > 0 {
				read(t, d, at, noughts(64), api.OK)
			}
		}
		for _, at := range []int{math.MinInt, -4096, -1, c.want, c.want + 1, 5000, math.MaxInt} {
			read(t, d, at, "", api.ErrRange)
			said(t, "Write", d.Write(at, "x"), api.ErrRange)
		}
		waits(t, d, 0)
		said(t, "Sync", d.Sync(), api.OK)
		lasts(t, d, noughts(64*c.want))
	}
}

// P15.1, P15.2: the document's example.
func TestExample(t *testing.T) {
	d := New(2)
	said(t, "Write", d.Write(1, "ab"), api.OK)
	d.Down(1)
	lasts(t, d, noughts(64)+"a"+noughts(63))
	gone(t, d)
	d.Up()
	read(t, d, 1, "a"+noughts(63), api.OK)
	read(t, d, 0, noughts(64), api.OK)
}

// P15.1, P15.2: what is written is read; it waits till it is synced, and lasts then, in its block alone.
func TestWriteAndSync(t *testing.T) {
	for _, blocks := range []int{1, 2, 5, 4096} {
		for _, at := range []int{0, blocks / 2, blocks - 1} {
			for _, length := range []int{0, 1, 2, 63, 64} {
				d, data := New(blocks), long(length)
				said(t, "Write", d.Write(at, data), api.OK)
				waits(t, d, length)
				read(t, d, at, full(data), api.OK)
				lasts(t, d, noughts(64*blocks))
				said(t, "Sync", d.Sync(), api.OK)
				waits(t, d, 0)
				read(t, d, at, full(data), api.OK)
				lasts(t, d, noughts(64*at)+full(data)+noughts(64*(blocks-at-1)))
			}
		}
	}
}

// P15.1: several writes wait one behind the other: the later one is at the front, what it doesn't reach stays.
func TestSeveralWrites(t *testing.T) {
	for _, c := range []struct {
		rows  []row
		want  string // of block 1
		waits int
	}{
		{nil, "", 0},
		{[]row{{1, ""}}, "", 0},
		{[]row{{1, "abc"}, {1, "x"}}, "xbc", 4},
		{[]row{{1, "x"}, {1, "abc"}}, "abc", 4},
		{[]row{{1, "abc"}, {1, ""}}, "abc", 3},
		{[]row{{1, "abc"}, {1, "xyz"}}, "xyz", 6},
		{[]row{{1, long(64)}, {1, "xy"}}, "xy" + long(64)[2:], 66},
		{[]row{{1, "xy"}, {1, long(64)}}, long(64), 66},
		{[]row{{1, "abc"}, {0, "zzzz"}, {1, "xy"}, {2, letters("u", 64)}, {1, "w"}}, "wyc", 3 + 4 + 2 + 64 + 1},
		{[]row{{1, "abc"}, {1, "\x00\x00"}}, "\x00\x00c", 5},
		{[]row{{0, letters("a", 64)}, {2, letters("b", 64)}}, "", 128},
	} {
		d := written(t, 3, c.rows)
		waits(t, d, c.waits)
		read(t, d, 1, full(c.want), api.OK)
		lasts(t, d, noughts(192))
		said(t, "Sync", d.Sync(), api.OK)
		waits(t, d, 0)
		read(t, d, 1, full(c.want), api.OK)
		if got := d.Lasts()[64:128]; got != full(c.want) {
			t.Errorf("%q lasts, wanted %q", got, c.want)
		}
		said(t, "Write", d.Write(1, "ZZ"), api.OK)
		read(t, d, 1, "ZZ"+full(c.want)[2:], api.OK)
		if got := d.Lasts()[64:128]; got != full(c.want) {
			t.Errorf("%q lasts, wanted %q", got, c.want)
		}
	}
}

// P15.1: a disk as great as may be, all of it written, shorter over longer.
func TestGreatest(t *testing.T) {
	d, m := New(5000), plain(5000)
	for at := range 4096 {
		data := long(65)[at%2 : at%2+64]
		said(t, "Write", d.Write(at, data), m.write(at, data))
	}
	for at := range 4096 {
		data := strconv.Itoa(at)
		said(t, "Write", d.Write(at, data), m.write(at, data))
	}
	waits(t, d, len(m.waits))
	lasts(t, d, noughts(64*4096))
	said(t, "Sync", d.Sync(), m.sync())
	waits(t, d, 0)
	lasts(t, d, string(m.lasts))
	read(t, d, 4095, "4095"+long(65)[5:65], api.OK)
}

// P15.1: each error, and which of two comes first; beside one nothing is told, and nothing waits more.
func TestErrors(t *testing.T) {
	for _, blocks := range []int{0, 1, 3} {
		for _, at := range []int{-1, 0, blocks - 1, blocks, blocks + 1, 4096, math.MinInt, math.MaxInt} {
			for _, length := range []int{0, 1, 64, 65, 66, 128, 70000} {
				for _, off := range []bool{false, true} {
					there := at >= 0 && at < blocks
					d := New(blocks)
					if blocks > 0 {
						d.Write(0, "was")
					}
					if off {
						d.Down(3)
					}
					want := api.OK
					switch {
					case off:
						want = api.ErrPower
					case !there:
						want = api.ErrRange
					case length > 64:
						want = api.ErrLong
					}
					before, waited, last := "", d.Waits(), d.Lasts()
					if there && !off {
						before, _ = d.Read(at)
					}
					said(t, "Write", d.Write(at, long(length)), want)
					if want == api.OK {
						continue
					}
					if d.Waits() != waited || d.Lasts() != last || d.On() == off {
						t.Errorf("%d blocks, %d bytes at %d, off %v: %d wait, on %v", blocks, length, at, off, d.Waits(), d.On())
					}
					if want == api.ErrLong {
						read(t, d, at, before, api.OK)
					} else {
						read(t, d, at, "", want)
					}
				}
			}
		}
	}
}

// P15.2: a disk that isn't armed is synced as often as one likes.
func TestSync(t *testing.T) {
	d := New(1)
	for n := range 1000 {
		said(t, "Write", d.Write(0, strconv.Itoa(n)), api.OK)
		said(t, "Sync", d.Sync(), api.OK)
		waits(t, d, 0)
	}
	lasts(t, d, full("999"))
	d.Down(0)
	said(t, "Sync of one that is off", d.Sync(), api.ErrPower)
	gone(t, d)
	lasts(t, d, full("999"))
}

// P15.2: of an armed one the power goes at the Sync that finds 0 syncs, behind the first cut bytes.
func TestArmed(t *testing.T) {
	for _, c := range []struct{ syncs, done int }{{math.MinInt, 0}, {-1, 0}, {0, 0}, {1, 1}, {2, 2}, {9, 9}} {
		for _, cut := range []int{math.MinInt, -1, 0, 1, 2, 3, 4, 5, 6, 100, math.MaxInt} {
			d := New(2)
			d.Arm(c.syncs, cut)
			for n := range c.done {
				said(t, "Write", d.Write(0, strconv.Itoa(n)), api.OK)
				said(t, "Sync", d.Sync(), api.OK)
				waits(t, d, 0)
			}
			was := d.Lasts()
			said(t, "Write", d.Write(1, "abc"), api.OK)
			said(t, "Write", d.Write(0, "xy"), api.OK)
			waits(t, d, 5)
			read(t, d, 0, "xy"+was[2:64], api.OK)
			lasts(t, d, was)
			said(t, "the last Sync", d.Sync(), api.ErrPower)
			first := min(max(cut, 0), 5)
			front := "xy"[:max(first-3, 0)]
			lasts(t, d, front+was[len(front):64]+full("abc"[:min(first, 3)]))
			gone(t, d)
		}
	}
}

// P15.2: a Sync for which nothing waits is one, too.
func TestArmedNothingWaits(t *testing.T) {
	d := New(1)
	d.Arm(2, 7)
	for range 2 {
		said(t, "Sync", d.Sync(), api.OK)
	}
	said(t, "Sync", d.Sync(), api.ErrPower)
	gone(t, d)
	lasts(t, d, noughts(64))

	empty := New(0)
	empty.Arm(0, 1)
	said(t, "Sync of no blocks", empty.Sync(), api.ErrPower)
	if empty.On() || empty.Lasts() != "" {
		t.Error("of no blocks: on")
	}
}

// P15.2: armed anew, it is as then, and not as it was; of one that is off Arm does nothing.
func TestArmAnew(t *testing.T) {
	for _, c := range []struct{ syncs, cut, again, anew int }{{0, 0, 1, 2}, {5, 3, 0, 1}, {0, 3, 2, 0}, {1, 1, 1, 3}, {3, 2, -4, -4}} {
		d := New(1)
		d.Arm(c.syncs, c.cut)
		d.Arm(c.again, c.anew)
		for range max(c.again, 0) {
			said(t, "Sync", d.Sync(), api.OK)
		}
		d.Write(0, "abc")
		said(t, "the last Sync", d.Sync(), api.ErrPower)
		lasts(t, d, full("abc"[:max(c.anew, 0)]))
	}

	d := New(1)
	d.Arm(1, 0)
	said(t, "Sync", d.Sync(), api.OK)
	d.Arm(1, 0)
	said(t, "Sync", d.Sync(), api.OK)
	said(t, "Sync", d.Sync(), api.ErrPower)
	d.Arm(0, 0)
	gone(t, d)
	d.Up()
	d.Write(0, "ab")
	said(t, "Sync", d.Sync(), api.OK)
	lasts(t, d, full("ab"))
}

// P15.2: Down of one that is on: the first cut bytes are done; of one that is off nothing.
func TestDown(t *testing.T) {
	rows := []row{{1, "abc"}, {0, "xy"}, {1, ""}, {1, "ABCDE"}, {0, letters("u", 64)}}
	for cut, want := range map[int]string{
		math.MinInt: full("") + full(""),
		-1:          full("") + full(""),
		0:           full("") + full(""),
		1:           full("") + full("a"),
		2:           full("") + full("ab"),
		3:           full("") + full("abc"),
		4:           full("x") + full("abc"),
		5:           full("xy") + full("abc"),
		6:           full("xy") + full("Abc"),
		8:           full("xy") + full("ABC"),
		9:           full("xy") + full("ABCD"),
		10:          full("xy") + full("ABCDE"),
		11:          full("uy") + full("ABCDE"),
		73:          full(letters("u", 63)) + full("ABCDE"),
		74:          full(letters("u", 64)) + full("ABCDE"),
		75:          full(letters("u", 64)) + full("ABCDE"),
		math.MaxInt: full(letters("u", 64)) + full("ABCDE"),
	} {
		d := written(t, 2, rows)
		waits(t, d, 74)
		d.Down(cut)
		lasts(t, d, want)
		gone(t, d)
		d.Down(74)
		lasts(t, d, want)
		d.Up()
		waits(t, d, 0)
		read(t, d, 0, want[:64], api.OK)
		read(t, d, 1, want[64:], api.OK)
		said(t, "Sync", d.Sync(), api.OK)
		lasts(t, d, want)
	}
}

// P15.2: Up of one that is off: it is on, not armed; of one that is on nothing: what waits waits, what is armed is.
func TestUp(t *testing.T) {
	for _, byArm := range []bool{false, true} {
		d := New(1)
		d.Arm(0, 1)
		d.Write(0, "ab")
		if byArm {
			said(t, "Sync", d.Sync(), api.ErrPower)
		} else {
			d.Down(1)
		}
		lasts(t, d, full("a"))
		d.Up()
		waits(t, d, 0)
		for range 3 {
			said(t, "Write", d.Write(0, "cd"), api.OK)
			said(t, "Sync", d.Sync(), api.OK)
		}
		lasts(t, d, full("cd"))
	}

	d := New(1)
	d.Up()
	d.Arm(1, 1)
	d.Write(0, "ab")
	d.Up()
	waits(t, d, 2)
	said(t, "Sync", d.Sync(), api.OK)
	lasts(t, d, full("ab"))
	d.Write(0, "cd")
	d.Up()
	waits(t, d, 2)
	said(t, "Sync", d.Sync(), api.ErrPower)
	lasts(t, d, full("cb"))
}

// split: the first so many bytes of what is written.
func split(rows []row, cut int) []row {
	var l []row
	for _, one := range rows {
		first := min(cut, len(one.data))
		l = append(l, row{one.at, one.data[:first]})
		cut -= first
	}
	return l
}

// P15.3: at each cut there lasts what would last, had just the first bytes been written and synced; what was synced, and not written since, lasts.
func TestCuts(t *testing.T) {
	for seed := range int64(40) {
		r := rand.New(rand.NewSource(seed))
		blocks := 1 + r.Intn(4)
		draw := func(n int) []row {
			var l []row
			for range n {
				l = append(l, row{r.Intn(blocks), long(65)[r.Intn(2):][:r.Intn(65)]})
			}
			return l
		}
		ahead, behind := draw(3), draw(1+r.Intn(5))
		all := 0
		touched := map[int]bool{}
		for _, one := range behind {
			all += len(one.data)
			touched[one.at] = true
		}
		for cut := -1; cut <= all+1; cut++ {
			for _, armed := range []bool{false, true} {
				d, other := written(t, blocks, ahead), written(t, blocks, ahead)
				said(t, "Sync", d.Sync(), api.OK)
				said(t, "Sync", other.Sync(), api.OK)
				synced := d.Lasts()
				for _, one := range behind {
					d.Write(one.at, one.data)
				}
				for _, one := range split(behind, max(cut, 0)) {
					other.Write(one.at, one.data)
				}
				said(t, "Sync", other.Sync(), api.OK)
				if armed {
					d.Arm(0, cut)
					said(t, "Sync", d.Sync(), api.ErrPower)
				} else {
					d.Down(cut)
				}
				lasts(t, d, other.Lasts())
				for at := range blocks {
					if !touched[at] && d.Lasts()[64*at:64*at+64] != synced[64*at:64*at+64] {
						t.Errorf("seed %d, cut %d: block %d is another one", seed, cut, at)
					}
				}
				d.Up()
				for at := range blocks {
					read(t, d, at, other.Lasts()[64*at:64*at+64], api.OK)
				}
			}
		}
	}
}

// step: one call by chance, of the disk and of its model.
func step(t *testing.T, r *rand.Rand, d *Disk, m *model) string {
	t.Helper()
	at, cut := r.Intn(len(m.lasts)/64+3)-1, r.Intn(200)-5
	if r.Intn(4) == 0 {
		cut = r.Intn(4) - 1
	}
	switch r.Intn(12) {
	default:
		data := long(80)[r.Intn(10):][:r.Intn(70)]
		if r.Intn(20) != 0 {
			data = data[:min(len(data), 64)]
		}
		said(t, "Write", d.Write(at, data), m.write(at, data))
		return "Write " + strconv.Itoa(at)
	case 0, 1, 2:
		said(t, "Sync", d.Sync(), m.sync())
		return "Sync"
	case 3:
		syncs := r.Intn(5) - 1
		d.Arm(syncs, cut)
		m.arm(syncs, cut)
		return "Arm " + strconv.Itoa(syncs) + " " + strconv.Itoa(cut)
	case 4:
		d.Down(cut)
		m.down(cut)
		return "Down " + strconv.Itoa(cut)
	case 5, 6:
		d.Up()
		m.up()
		return "Up"
	}
}

// P15.1, P15.2, P15.3: long rows of calls, held against the model after each.
func TestRows(t *testing.T) {
	for seed := range int64(60) {
		r := rand.New(rand.NewSource(seed))
		blocks := r.Intn(6)
		d, m := New(blocks), plain(blocks)
		for n := range 300 {
			what := step(t, r, d, m)
			alike(t, "seed "+strconv.FormatInt(seed, 10)+", step "+strconv.Itoa(n)+", "+what, d, m)
		}
	}
}

// P15.1, P15.2: of nil 0, nothing, ErrNil, whatever it is asked; it isn't on.
func TestNil(t *testing.T) {
	var d *Disk
	for _, n := range []int{math.MinInt, -1, 0, 1, 65, math.MaxInt} {
		d.Arm(n, n)
		d.Down(n)
		d.Up()
		read(t, d, n, "", api.ErrNil)
		said(t, "Write", d.Write(n, "x"), api.ErrNil)
		said(t, "Write", d.Write(n, long(65)), api.ErrNil)
		said(t, "Sync", d.Sync(), api.ErrNil)
		if d.Blocks() != 0 || d.Waits() != 0 || d.Lasts() != "" || d.On() {
			t.Errorf("%d, %d, %q, %v", d.Blocks(), d.Waits(), d.Lasts(), d.On())
		}
	}
}

// Memory: what was told stays as it was told; a disk shares nothing with another one.
func TestMemory(t *testing.T) {
	d, other := New(2), New(2)
	d.Write(0, "ab")
	told, _ := d.Read(0)
	d.Sync()
	last := d.Lasts()
	d.Write(0, "xyz")
	again, _ := d.Read(0)
	d.Sync()
	if told != full("ab") || last != full("ab")+noughts(64) || again != full("xyz") {
		t.Errorf("%q, %q, %q", told, last, again)
	}
	waits(t, other, 0)
	lasts(t, other, noughts(128))
	same := d
	same.Down(0)
	gone(t, d)
	waits(t, other, 0)
}
