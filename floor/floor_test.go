package floor

import (
	"math"
	"slices"
	"strings"
	"testing"

	"stairwell/api"
	"stairwell/disk"
	"stairwell/frame"
	"stairwell/method"
	"stairwell/policy"
	"stairwell/reply"
	"stairwell/rise"
	"stairwell/store"
	"stairwell/vault"
)

// P29.1, P29.2: the document's example: Connect, the bytes of Hello, a turn: Out tells Welcome.
func TestExample(t *testing.T) {
	f, code := Open(ladder(t, 4, 1), low, disk.New(enough), 0)
	if code != api.OK {
		t.Fatal(code)
	}
	n, code := f.Connect()
	if n != 1 || code != api.OK || f.Bytes(1, bytesOf(t, hello)) != api.OK || len(f.Out()) != 0 || f.Turn(0, nil) != api.OK {
		t.Fatal(n, code)
	}
	l := f.Out()
	if len(l) != 1 || l[0].Client != 1 || len(repliesOf(t, l[0].Bytes)) != 1 || repliesOf(t, l[0].Bytes)[0].Name != "low" {
		t.Errorf("%+v", l)
	}
}

// P29.1: Open tells the vault's error, and nil; else a floor without clients, with what stands on the disk, of which nothing is lent any more.
func TestOpen(t *testing.T) {
	p := ladder(t, 4, 1)
	off := disk.New(enough)
	off.Down(0)
	spoiled := disk.New(enough)
	if _, code := vault.Open(p, high, spoiled, 0); code != api.OK {
		t.Fatal(code)
	}
	for _, x := range []struct {
		d    *disk.Disk
		want api.Errno
	}{{nil, api.ErrNil}, {off, api.ErrPower}, {disk.New(0), api.ErrRange}, {disk.New(3), api.ErrRange}, {disk.New(4), api.ErrSpace}, {disk.New(8), api.ErrSpace}, {disk.New(9), api.ErrSpace}, {disk.New(10), api.OK}} {
		f, code := Open(p, low, x.d, 3)
		if code != x.want || (f == nil) != (x.want != api.OK) {
			t.Errorf("%d blocks: %d, %v, wanted %d", x.d.Blocks(), code, f, x.want)
		}
	}
	if f, code := Open(p, low, spoiled, 3); code != api.OK || f.Parts().Notes.Total() != 1 { // the image may be any place's of as many bytes
		t.Errorf("%d", code)
	}
	x := opened(t, p, low, enough)
	if len(x.f.Clients()) != 0 || len(x.f.Out()) != 0 || !x.f.Ready() || !store.Same(x.f.Parts(), store.New(p, low).Parts()) {
		t.Errorf("%v, %+v", x.f.Clients(), x.f.Parts())
	}
	x.begins(t, 1, 1)
	x.does(t, 1, fanout, queue("q", 9), binds, puts("x"), gets)
	was := x.f.Parts()
	x.d.Down(0)
	x.e.Down(0)
	x.open(t)
	again := x.f.Parts()
	if len(x.f.Clients()) != 0 || again.Stock.Line("q").Ready() != 1 || was.Stock.Line("q").Ready() != 0 || again.Notes.Total() != was.Notes.Total()+1 {
		t.Errorf("%v, %s", x.f.Clients(), shown(again))
	}
	last, _ := again.Notes.Get(again.Notes.Total())
	if last.Kind != store.Woken || last.Tick != x.tick {
		t.Errorf("%+v", last)
	}
	x.begins(t, 1, 1)
	x.says(t, 1, gets)
	x.turn(t, api.OK)
	x.tells(t, is(1, sent(1, 256, 1, true, "x")))
}

// P29.1: clients have the numbers from 1 on, as they came, whoever has gone; at most 8 are there, those that are cut off too, till the turn is over.
func TestConnect(t *testing.T) {
	x := opened(t, ladder(t, 4, 1), left, enough)
	for n := range uint64(8) {
		x.connect(t, n+1)
	}
	x.refuses(t, api.ErrFull)
	x.turn(t, api.OK)
	x.refuses(t, api.ErrFull)
	x.gone(t, 3, api.OK)
	x.bytes(t, 8, "\xff\xff\xff\xff", api.OK)
	x.refuses(t, api.ErrFull)
	if got := x.f.Clients(); !slices.Equal(got, []uint64{1, 2, 3, 4, 5, 6, 7, 8}) {
		t.Errorf("%v", got)
	}
	x.turn(t, api.OK)
	x.tells(t, is(8, bye(api.ErrLong)))
	x.connect(t, 9)
	x.connect(t, 10)
	x.refuses(t, api.ErrFull)
	if got := x.f.Clients(); !slices.Equal(got, []uint64{1, 2, 4, 5, 6, 7, 9, 10}) {
		t.Errorf("%v", got)
	}
	for _, n := range []uint64{1, 2, 4, 5, 6, 7, 9, 10} {
		x.gone(t, n, api.OK)
	}
	x.turn(t, api.OK)
	x.tells(t)
	x.connect(t, 11)
	x.gone(t, 10, api.ErrNone)
}

// P29.1: Connect where the power is gone: ErrPower, ahead of ErrFull.
func TestConnectPower(t *testing.T) {
	x := opened(t, ladder(t, 4, 1), low, enough)
	for n := range uint64(8) {
		x.connect(t, n+1)
	}
	x.gone(t, 1, api.OK)
	x.says(t, 2, hello)
	x.cut(0, 0)
	x.turn(t, api.ErrPower)
	x.refuses(t, api.ErrPower)
	x.f.clients = []*client{{number: 1}, {}, {}, {}, {}, {}, {}, {}} // where there were 8 yet
	if n, code := x.f.Connect(); n != 0 || code != api.ErrPower {
		t.Errorf("%d, %d", n, code)
	}
}

// P29.1: Bytes and Gone of a client that isn't there: ErrNone, ahead of all else; of one that is cut off, or fails: OK, and it doesn't count.
func TestNone(t *testing.T) {
	x := opened(t, ladder(t, 4, 1), low, enough)
	for _, n := range []uint64{0, 1, 2, math.MaxUint64} {
		x.bytes(t, n, "", api.ErrNone)
		x.bytes(t, n, "\xff\xff\xff\xff", api.ErrNone)
		x.gone(t, n, api.ErrNone)
	}
	x.begins(t, 1)
	x.begins(t, 2)
	x.gone(t, 1, api.OK)
	x.bytes(t, 2, "\xff\xff\xff\xff", api.OK)
	for _, chunk := range []string{"", bytesOf(t, opens), "\xff\xff\xff\xff", strings.Repeat(bytesOf(t, opens), 17)} {
		x.bytes(t, 1, chunk, api.OK)
		x.bytes(t, 2, chunk, api.OK)
	}
	x.gone(t, 1, api.OK)
	x.turn(t, api.OK)
	x.tells(t, is(2, bye(api.ErrLong)))
	for _, n := range []uint64{1, 2, 3} {
		x.bytes(t, n, bytesOf(t, opens), api.ErrNone)
		x.gone(t, n, api.ErrNone)
	}
}

// opensEach: as many methods that may come one behind the other: Open and Close of channel 1.
func opensEach(count int) []method.Method {
	var l []method.Method
	for n := range count {
		l = append(l, []method.Method{opens, closes}[n%2])
	}
	return l
}

// dones: so many Done, on channel 1.
func dones(count int) []reply.Reply { return slices.Repeat([]reply.Reply{done(1)}, count) }

// P29.1: a list has at most 16 methods, in one chunk and in several; with one more the client fails with ErrFull, and those that have room are done.
func TestList(t *testing.T) {
	for _, cuts := range [][]int{{16}, {17}, {40}, {1, 15}, {1, 16}, {8, 8}, {8, 9}, {15, 1, 1}, {16, 1}, {16, 0, 3}, {3, 3, 3, 3, 3, 3}, {7, 7, 7, 7}} {
		x := opened(t, ladder(t, 16, 1), low, enough)
		x.begins(t, 1)
		all := 0
		for _, n := range cuts {
			x.says(t, 1, opensEach(40)[all:all+n]...)
			all += n
		}
		want := dones(16)
		if all > 16 {
			want = append(want, bye(api.ErrFull))
		}
		x.turn(t, api.OK)
		x.tells(t, is(1, want...))
		if got := len(x.f.Clients()); (got == 0) != (all > 16) {
			t.Errorf("%v: %d clients", cuts, got)
		}
	}
}

// P29.1: a list has room again behind a turn.
func TestListAgain(t *testing.T) {
	x := opened(t, ladder(t, 5, 1), low, enough)
	x.begins(t, 1)
	x.says(t, 1, opensEach(16)...)
	x.turn(t, api.OK)
	x.says(t, 1, opensEach(5)...)
	x.turn(t, api.OK)
	x.turn(t, api.OK)
	x.says(t, 1, opensEach(11)[1:]...)
	x.says(t, 1, closes)
	x.turn(t, api.OK)
	x.tells(t, is(1, dones(5)...), is(1, dones(5)...), is(1, dones(5)...), is(1, dones(5)...))
	x.turn(t, api.OK)
	x.turn(t, api.OK)
	x.turn(t, api.OK)
	x.tells(t, is(1, dones(5)...), is(1, dones(5)...), is(1, done(1), bye(api.ErrFull)))
}

// P29.1: ErrFull ahead of Take's error, in one chunk; where there is room Take's error, behind the methods ahead of it.
func TestFullAhead(t *testing.T) {
	other, _ := frame.Bytes(frame.Frame{Kind: 99})
	short, _ := frame.Bytes(frame.Frame{Channel: 1, Kind: method.Credit})
	for _, bad := range []struct {
		chunk string
		e     api.Errno
	}{{other, api.ErrKind}, {short, api.ErrShort}, {"\xff\xff\xff\xff", api.ErrLong}, {bytesOf(t, opens)[:8] + "x", api.ErrForm}} {
		for count, want := range map[int]api.Errno{0: bad.e, 1: bad.e, 16: bad.e, 17: api.ErrFull, 20: api.ErrFull} {
			x := opened(t, ladder(t, 16, 1), low, enough)
			x.begins(t, 1)
			x.bytes(t, 1, bytesOf(t, opensEach(count)...)+bad.chunk+bytesOf(t, opens), api.OK)
			x.says(t, 1, opens) // it doesn't count
			x.turn(t, api.OK)
			told := append(dones(min(count, 16)), bye(want))
			x.tells(t, is(1, told...))
		}
	}
}

// P29.1: bytes that aren't a frame yet are kept, from chunk to chunk.
func TestPieces(t *testing.T) {
	all := bytesOf(t, hello, opens, fanout)
	for at := range len(all) + 1 {
		x := opened(t, ladder(t, 4, 1), low, enough)
		x.connect(t, 1)
		x.bytes(t, 1, all[:at], api.OK)
		x.turn(t, api.OK)
		x.bytes(t, 1, all[at:], api.OK)
		x.turn(t, api.OK)
		var l []string
		for _, h := range x.out(t) {
			for _, r := range h.replies {
				l = append(l, r.Name)
			}
		}
		if !slices.Equal(l, []string{"low", "", ""}) {
			t.Errorf("cut at %d: %q", at, l)
		}
	}
}

// P29.2: Out tells what was released since it was asked last, in order, once.
func TestOut(t *testing.T) {
	x := opened(t, ladder(t, 2, 1), low, enough)
	x.tells(t)
	x.connect(t, 1)
	x.connect(t, 2)
	x.says(t, 2, hello, opens)
	x.says(t, 1, hello)
	x.tells(t)
	x.turn(t, api.OK)
	x.turn(t, api.OK)
	x.says(t, 1, opens)
	x.turn(t, api.OK)
	x.turn(t, api.OK)
	l := x.out(t)
	if len(l) != 4 || l[0].client != 1 || l[1].client != 2 || l[2].client != 2 || l[3].client != 1 {
		t.Errorf("%+v", l)
	}
	x.tells(t)
	x.turn(t, api.OK)
	x.tells(t)
}

// P29.1, P29.2: of nil.
func TestNil(t *testing.T) {
	var f *Floor
	if n, code := f.Connect(); n != 0 || code != api.ErrNil {
		t.Errorf("Connect: %d, %d", n, code)
	}
	for _, code := range []api.Errno{f.Bytes(1, "x"), f.Gone(1), f.Turn(0, nil), f.Turn(math.MaxUint64, make([]rise.Rise, 3))} {
		if code != api.ErrNil {
			t.Error(code)
		}
	}
	if f.Out() != nil || f.Clients() != nil || f.Ready() || !store.Same(f.Parts(), store.Parts{}) {
		t.Error("of nil there is something")
	}
}

// Memory: what is handed in isn't changed, nor kept; what is told may be written to.
func TestWrittenOver(t *testing.T) {
	p := ladder(t, 3, 1)
	p.Places, p.Slots, p.Grants = append(p.Places, policy.Place{Name: "spare"})[:4], append(p.Slots, 77)[:5], append(p.Grants, policy.Grant{To: 77})[:4]
	x := opened(t, ladder(t, 3, 1), high, enough)
	x.d = disk.New(enough)
	f, code := Open(p, high, x.d, 0)
	if code != api.OK {
		t.Fatal(code)
	}
	if p.Places[:5][4].Name != "spare" || p.Slots[:6][5] != 77 || p.Grants[:5][4].To != 77 {
		t.Errorf("%+v", p)
	}
	for at := range p.Places[:cap(p.Places)] {
		p.Places[:cap(p.Places)][at] = policy.Place{Name: "over"}
	}
	for at := range p.Slots[:cap(p.Slots)] {
		p.Slots[:cap(p.Slots)][at] = 99
	}
	for at := range p.Grants[:cap(p.Grants)] {
		p.Grants[:cap(p.Grants)][at] = policy.Grant{From: 3, To: 3, Budget: 9}
	}
	x.f = f
	x.begins(t, 1, 1)
	x.does(t, 1, fanout, queue("q", 9), binds)
	rises := append(make([]rise.Rise, 0, 6), risen(t, "x", "y"), risen(t, "z"))
	x.turn(t, api.OK, rises...)
	if rises[:6][2].Total() != 0 || rises[0].Total() != 2 || rises[1].Total() != 1 {
		t.Errorf("%v", rises)
	}
	clients := x.f.Clients()
	for at := range clients[:cap(clients)] {
		clients[:cap(clients)][at] = 99
	}
	x.says(t, 1, gets, gets)
	x.turn(t, api.OK, risen(t, "x", "y"), risen(t, "z"))
	l := x.f.Out()
	x.p.out = nil
	for at := range l[:cap(l)] {
		l[:cap(l)][at] = Out{99, "over"}
	}
	x.alike(t, "written over")
	x.says(t, 1, gets)
	x.turn(t, api.OK)
	x.tells(t, is(1, sent(1, 256, 11, false, "z")))
}

// P1: of policies and places of which nothing is promised no call panics.
func TestAnyPolicy(t *testing.T) {
	wild := policy.Policy{Work: 3, Give: 2}
	for n := range 20 {
		wild.Places = append(wild.Places, policy.Place{Name: strings.Repeat("n", n), Bytes: 900, Label: api.Label{Level: uint8(n)}})
	}
	wild.Grants = []policy.Grant{{From: 19, To: 0}, {From: 99, To: 0}, {From: -1, To: 0}}
	rises := slices.Repeat([]rise.Rise{risen(t, "x")}, 25)
	for _, p := range []policy.Policy{{}, wild, {Work: math.MaxInt, Give: math.MaxInt}, {Work: -1, Give: -1}} {
		for _, place := range []int{math.MinInt, -1, 0, 3, 15, 16, 19, 20, math.MaxInt} {
			f, code := Open(p, place, disk.New(enough), 0)
			if code != api.OK {
				continue
			}
			f.Connect()
			f.Bytes(1, bytesOf(t, hello, opens, fanout, queue("q", 3), binds, puts("x"), takes(1, "q", 0)))
			for tick := range uint64(4) {
				f.Turn(tick, rises)
			}
			f.Gone(1)
			f.Turn(9, nil)
			f.Out()
		}
	}
}

// cut: both disks are armed.
func (x *pair) cut(syncs, cut int) {
	x.d.Arm(syncs, cut)
	x.e.Arm(syncs, cut)
}
