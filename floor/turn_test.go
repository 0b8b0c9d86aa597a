package floor

import (
	"math"
	"slices"
	"strconv"
	"strings"
	"testing"

	"stairwell/api"
	"stairwell/method"
	"stairwell/reply"
	"stairwell/rise"
	"stairwell/store"
)

// whose: the numbers of the clients that were told something, in order, each as often as it was told something.
func whose(l []heard) []uint64 {
	var all []uint64
	for _, h := range l {
		for range h.replies {
			all = append(all, h.client)
		}
	}
	return all
}

// P29.2, P29.3: in a turn as many methods are done as the policy's Work says, of all clients together.
func TestWork(t *testing.T) {
	for work := 1; work <= 16; work++ {
		for clients := uint64(1); clients <= 8; clients += 3 {
			x := opened(t, ladder(t, work, 1), low, enough)
			for n := range clients {
				x.connect(t, n+1)
				x.says(t, n+1, hello)
				x.says(t, n+1, opensEach(10)...)
			}
			left := 11 * int(clients)
			for left > 0 {
				x.turn(t, api.OK)
				if got := len(whose(x.out(t))); got != min(work, left) {
					t.Fatalf("work %d, %d clients, %d left: %d done", work, clients, left, got)
				}
				left -= min(work, left)
			}
			x.turn(t, api.OK)
			x.tells(t)
		}
	}
}

// P29.2: the next client is the first one above that from whose list one was taken last, in any turn; else the least. With a Work of 1 each
// turn tells who it was.
func TestNextClient(t *testing.T) {
	x := opened(t, ladder(t, 1, 1), low, enough)
	next := func(want uint64) {
		t.Helper()
		x.turn(t, api.OK)
		if got := whose(x.out(t)); !slices.Equal(got, []uint64{want}) {
			t.Fatalf("%v, wanted %d", got, want)
		}
	}
	for n := range uint64(4) {
		x.connect(t, n+1)
		x.says(t, n+1, hello, opens, closes, opens)
	}
	next(1)
	next(2)
	next(3)
	x.gone(t, 4, api.OK) // it would be next
	next(1)
	x.connect(t, 5)
	x.says(t, 5, hello)
	next(2)
	next(3)
	next(5)
	next(1)
	x.gone(t, 1, api.OK) // it was the last one
	next(2)
	next(3)
	next(2)
	x.says(t, 3, closes, opens, hello, opens) // hello isn't told anything but Bye
	next(3)
	next(3)
	next(3)
	x.says(t, 2, closes, opens)
	next(2)
	next(3) // Bye: it fails
	next(2)
	x.says(t, 5, opens)
	x.says(t, 2, closes)
	next(5)
	next(2)
}

// P29.2: one of each client that has a method, in one turn and over turns, however many each has.
func TestTurns(t *testing.T) {
	x := opened(t, ladder(t, 5, 1), low, enough)
	for n, count := range []int{1, 4, 0, 2, 7} {
		x.connect(t, uint64(n+1))
		x.says(t, uint64(n+1), append([]method.Method{hello}, opensEach(9)...)[:count]...)
	}
	var rows [][]uint64
	for range 3 {
		x.turn(t, api.OK)
		rows = append(rows, whose(x.out(t)))
	}
	want := [][]uint64{{1, 2, 2, 4, 5}, {2, 2, 4, 5, 5}, {5, 5, 5, 5}} // 1 2 4 5 2, 4 5 2 5 2, 5 5 5 5
	if !slices.EqualFunc(rows, want, slices.Equal[[]uint64]) {
		t.Errorf("%v, wanted %v", rows, want)
	}
}

// P29.2, P4: at an error of its plan the client fails with it, alone: what is on its list isn't done, and others' is.
func TestPlanFails(t *testing.T) {
	for _, x := range []struct {
		bad method.Method
		e   api.Errno
	}{{hello, api.ErrOrder}, {closes, api.ErrOrder}, {method.Method{Kind: method.Open}, api.ErrOrder}, {method.Method{Channel: 5, Kind: method.Open}, api.ErrRange}, {puts("x"), api.ErrOrder}} {
		y := opened(t, ladder(t, 16, 1), low, enough)
		y.connect(t, 1)
		y.connect(t, 2)
		y.says(t, 1, hello, opens, closes, x.bad, opens, fanout, fanout)
		y.says(t, 2, hello, opens, closes, opens, fanout)
		y.turn(t, api.OK)
		welcome := reply.Reply{Kind: reply.Welcome, Name: "low"}
		y.tells(t, is(1, welcome, done(1), done(1), bye(x.e)), is(2, append([]reply.Reply{welcome}, dones(4)...)...))
		if got := y.f.Clients(); !slices.Equal(got, []uint64{2}) {
			t.Errorf("%v", got)
		}
	}
	y := opened(t, ladder(t, 16, 1), low, enough)
	y.connect(t, 1)
	y.says(t, 1, method.Method{Kind: method.Hello, N: 2}, hello)
	y.turn(t, api.OK)
	y.tells(t, is(1, bye(api.ErrRange)))
	y.notes(t, 0)
}

// P29.2: a client that fails with methods on its list: these are done, over as many turns as it takes; then it is told Bye. Where the plan
// of one of them has an error it fails with that.
func TestFailsWithMethods(t *testing.T) {
	x := opened(t, ladder(t, 2, 3), low, enough)
	x.begins(t, 1, 1)
	x.begins(t, 2, 1)
	x.does(t, 2, fanout, queue("q", 9), binds, puts("x"), puts("y"))
	x.bytes(t, 1, bytesOf(t, takes(1, "q", 5), gets, gets, gets, closes)+"\xff\xff\xff\xff", api.OK)
	x.turn(t, api.OK)
	x.tells(t, is(1, done(1), sent(1, 256, 1, false, "x")))
	x.says(t, 1, closes) // it doesn't count
	x.turn(t, api.OK)
	x.tells(t, is(1, sent(1, 256, 2, false, "y"), reply.Reply{Channel: 1, Kind: reply.Nothing}))
	since := x.total()
	if got := x.f.Clients(); !slices.Equal(got, []uint64{1, 2}) {
		t.Errorf("%v", got)
	}
	x.turn(t, api.OK)
	x.tells(t, is(1, done(1), bye(api.ErrLong)))
	x.notes(t, since, "6")
	if got := x.f.Clients(); !slices.Equal(got, []uint64{2}) || x.f.Parts().Stock.Line("q").Ready() != 2 {
		t.Errorf("%v", got)
	}
	x.begins(t, 3)
	x.bytes(t, 3, bytesOf(t, opens, opens, closes)+"\xff\xff\xff\xff", api.OK)
	x.turn(t, api.OK)
	x.tells(t, is(3, done(1), bye(api.ErrOrder)))
	x.begins(t, 4)
	x.says(t, 4, opensEach(17)...)
	x.gone(t, 4, api.OK)
	x.turn(t, api.OK)
	x.tells(t)
}

// P29.2: a client that fails with nothing on its list is told Bye in the next turn, on channel 0; Over is noted where it had begun.
func TestFails(t *testing.T) {
	x := opened(t, ladder(t, 4, 1), low, enough)
	x.connect(t, 1)
	x.begins(t, 2)
	x.begins(t, 3)
	since := x.total()
	x.bytes(t, 1, "\xff\xff\xff\xff", api.OK)
	x.bytes(t, 3, bytesOf(t, opens)[:8]+"x", api.OK)
	x.turn(t, api.OK)
	x.tells(t, is(1, bye(api.ErrLong)), is(3, bye(api.ErrForm)))
	x.notes(t, since, "6")
	x.turn(t, api.OK)
	x.tells(t)
	x.gone(t, 2, api.OK)
	x.connect(t, 4)
	x.gone(t, 4, api.OK)
	x.turn(t, api.OK)
	x.tells(t)
	x.notes(t, since, "6", "6")
	x.connect(t, 5)
	x.says(t, 5, hello)
	x.gone(t, 5, api.OK) // its Hello isn't done
	x.turn(t, api.OK)
	x.notes(t, since, "6", "6")
}

// P29.2: what is noted of methods: Begun of Hello, Refused, with the method's Name, of ErrFlow and ErrGrant, of no other error.
func TestNotes(t *testing.T) {
	on := func(kind uint8, name, other string, n uint64) method.Method {
		return method.Method{Channel: 1, Kind: kind, Name: name, Other: other, N: n}
	}
	x := opened(t, ladder(t, 1, 1), high, enough)
	x.connect(t, 1)
	x.says(t, 1, hello)
	x.turn(t, api.OK)
	x.out(t)
	x.notes(t, 0, "5")
	for _, y := range []struct {
		m     method.Method
		told  []reply.Reply
		notes []string
	}{
		{opens, dones(1), nil},
		{on(method.MakeShop, "flows", "right", 4), []reply.Reply{refused(1, api.ErrFlow)}, []string{"4flows"}},
		{on(method.MakeShop, "none", "nowhere", 4), []reply.Reply{refused(1, api.ErrNone)}, nil},
		{on(method.MakeShop, "a", "low", 4), dones(1), nil},
		{on(method.MakeShop, "f", "", 1), dones(1), nil},
		{on(method.Lift, "f", "low", 0), []reply.Reply{refused(1, api.ErrFlow)}, []string{"4f"}},
		{on(method.Lift, "f", "high", 0), []reply.Reply{refused(1, api.ErrFlow)}, []string{"4f"}},
		{on(method.Bind, "f", "q", 0), []reply.Reply{refused(1, api.ErrNone)}, nil},
		{puts("x"), nil, []string{"2low"}},
		{puts("y"), nil, []string{"2low"}},
		{puts("z"), []reply.Reply{refused(1, api.ErrGrant)}, []string{"4a"}},
		{sure, dones(1), nil},
		{puts("z"), []reply.Reply{{Channel: 1, Kind: reply.Kept, N: 1}}, []string{"2low"}}, // another round
		{puts("z"), []reply.Reply{{Channel: 1, Kind: reply.Kept, N: 2}}, []string{"2low"}},
		{puts("z"), []reply.Reply{{Channel: 1, Kind: reply.Lost, N: 3, M: uint64(api.ErrGrant)}}, []string{"4a"}},
		{on(method.Get, "q", "", 0), []reply.Reply{refused(1, api.ErrNone)}, nil},
		{closes, dones(1), nil},
		{opens, dones(1), nil},
		{drafts, dones(1), nil},
	} {
		for (y.m.Kind == method.Put || y.m.Kind == method.Sure) && y.m.Body < "y" && x.tick%5 != 0 {
			x.turn(t, api.OK) // the Puts begin with a round
		}
		since := x.total()
		x.says(t, 1, y.m)
		x.turn(t, api.OK)
		if y.told == nil {
			x.tells(t)
		} else {
			x.tells(t, is(1, y.told...))
		}
		x.notes(t, since, y.notes...)
	}
	for x.tick%5 != 0 {
		x.turn(t, api.OK)
	}
	since := x.total()
	x.says(t, 1, puts("1"), puts("2"), puts("3"), commit)
	for range 4 {
		x.turn(t, api.OK)
	}
	x.tells(t, is(1, refused(1, api.ErrGrant)))
	x.notes(t, since, "4") // a Commit has no Name
}

// P29.2: Late, where something's time is over, ahead of all else; where nothing's is, nothing is done.
func TestLate(t *testing.T) {
	x := opened(t, ladder(t, 8, 2), low, enough)
	x.begins(t, 1, 1)
	lives := puts("short")
	lives.M = 2
	x.does(t, 1, fanout, queue("d", 9), method.Method{Channel: 1, Kind: method.MakeShop, Name: "dead", N: 1}, method.Method{Channel: 1, Kind: method.Bind, Name: "dead", Other: "d"},
		method.Method{Channel: 1, Kind: method.MakeQueue, Name: "q", N: 3, Other: "dead"}, binds)
	x.says(t, 1, lives, puts("long"))
	x.turn(t, api.OK)
	line := func(queue string) int { return x.f.Parts().Stock.Line(queue).Len() }
	lasts := x.d.Lasts()
	x.turn(t, api.OK)
	if line("q") != 2 || line("d") != 0 || x.d.Lasts() != lasts {
		t.Errorf("%d, %d, though no time is over", line("q"), line("d"))
	}
	x.says(t, 1, gets, takes(1, "d", 3)) // what is late is dead ahead of the Get, and handed out behind it
	x.turn(t, api.OK)
	late := sent(1, 3, 3, false, "short")
	late.Mail.Shop = "dead"
	x.tells(t, is(1, sent(1, 256, 2, false, "long"), done(1), late))
	if x.d.Lasts() == lasts {
		t.Error("nothing lasts")
	}
	x.says(t, 1, settles(2), settles(3), lives)
	x.turn(t, api.OK)
	x.says(t, 1, gets)
	x.turn(t, api.OK)
	x.out(t)
	lasts = x.d.Lasts()
	for range 4 { // what is lent isn't late
		x.turn(t, api.OK)
	}
	if line("q") != 1 || line("d") != 0 || x.d.Lasts() != lasts {
		t.Errorf("%d, %d, though it is lent", line("q"), line("d"))
	}
	x.gone(t, 1, api.OK)
	x.turn(t, api.OK)
	if line("q") != 1 || line("d") != 0 {
		t.Errorf("%d, %d: it comes back behind Late", line("q"), line("d"))
	}
	x.turn(t, api.OK)
	if line("q") != 0 || line("d") != 1 {
		t.Errorf("%d, %d: its time is over", line("q"), line("d"))
	}
}

// bodies: those of a queue's messages, in order.
func (x *pair) bodies(queue string) string {
	var l []string
	for _, y := range x.f.Parts().Stock.Line(queue).All() {
		l = append(l, y.Mail.Body)
	}
	return strings.Join(l, " ")
}

// laid: a floor at a place with a client that has channel 1, an exchange a, and the queue q to which it leads.
func laid(t *testing.T, work, give, place int) *pair {
	t.Helper()
	x := opened(t, ladder(t, work, give), place, enough)
	x.begins(t, 1, 1)
	x.does(t, 1, fanout, queue("q", 64), binds)
	return x
}

// P29.2: Pulls from each place from which something may come, by rising numbers, by a grant, too, and from no other one; of those of which
// rises tell nothing, too.
func TestPulls(t *testing.T) {
	rises := []rise.Rise{risen(t, "l1", "l2"), risen(t, "f1"), risen(t, "r1", "r2"), risen(t, "h1")}
	for place, want := range []string{"h1", "l1 l2 r1 r2 h1", "l1 l2 f1", "l1 l2 f1 r1 r2"} {
		for have := range len(rises) + 1 {
			x := laid(t, 16, 1, place)
			since := x.total()
			x.turn(t, api.OK, rises[:have]...)
			var l, notes []string
			for _, body := range strings.Fields(want) {
				if strings.Index("lfrh", body[:1]) < have {
					l = append(l, body)
				}
			}
			if got := x.bodies("q"); got != strings.Join(l, " ") {
				t.Errorf("place %d, %d rises: %q, wanted %q", place, have, got, l)
			}
			for _, body := range l {
				name := map[string]string{"0h": "high", "1r": "right", "1h": "high", "2f": "left"}[strconv.Itoa(place)+body[:1]]
				if name != "" {
					notes = append(notes, "2"+name)
				}
			}
			x.notes(t, since, notes...)
			lasts := x.d.Lasts()
			x.turn(t, api.OK, rises[:have]...)
			x.turn(t, api.OK)
			if x.d.Lasts() != lasts {
				t.Errorf("place %d: what came comes again", place)
			}
		}
		x := laid(t, 16, 1, place)
		x.turn(t, api.OK, append(slices.Clone(rises), risen(t, "no place's"), risen(t, "none's"))...)
		if got := x.bodies("q"); got != want {
			t.Errorf("%q, wanted %q", got, want)
		}
	}
}

// P29.2, P29.3: of all places together as many Pulls as Work at most, ahead of as many methods.
func TestPullsAtMost(t *testing.T) {
	rises := []rise.Rise{risen(t, "1", "2", "3"), risen(t, "4", "5"), risen(t, "6", "7", "8")}
	for work := 1; work <= 16; work++ {
		x := laid(t, work, 1, high)
		for pulled := 0; pulled < 8; pulled = min(pulled+work, 8) {
			if got := len(strings.Fields(x.bodies("q"))); got != pulled {
				t.Fatalf("work %d: %d, wanted %d", work, got, pulled)
			}
			x.turn(t, api.OK, rises...)
		}
		if got := x.bodies("q"); got != "1 2 3 4 5 6 7 8" {
			t.Errorf("work %d: %q", work, got)
		}
		y := laid(t, work, 1, high)
		y.says(t, 1, slices.Repeat([]method.Method{gets}, 16)...)
		y.turn(t, api.OK, rises...)
		if got := whose(y.out(t)); len(got) != work {
			t.Errorf("work %d: %d methods beside the Pulls", work, len(got))
		}
	}
}

// P29.2: what comes while the place looks elsewhere: of a rise the last 16 are kept, and each of them comes once, in order.
func TestPullsMissed(t *testing.T) {
	x := laid(t, 5, 1, high)
	var l []string
	for n := range 40 {
		l = append(l, strconv.Itoa(n+1))
	}
	x.turn(t, api.OK, risen(t, l[:3]...))
	x.turn(t, api.OK, risen(t, l[:20]...))
	x.turn(t, api.OK, risen(t, l[:30]...))
	x.turn(t, api.OK, risen(t, l[:30]...))
	x.turn(t, api.OK, risen(t, l[:3]...)) // a rise that tells less than came
	for range 5 {
		x.turn(t, api.OK, risen(t, l...))
	}
	if got := x.bodies("q"); got != "1 2 3 5 6 7 8 9 15 16 17 18 19 20 21 22 23 24 25 26 27 28 29 30 31 32 33 34 35 36 37 38 39 40" {
		t.Errorf("%q", got)
	}
	if x.f.Parts().Seen[low] != 40 {
		t.Errorf("%v", x.f.Parts().Seen)
	}
}

// P29.2: at an error of a Pull no more comes from that place in this turn, from others there does; the error changes nothing else.
func TestPullFails(t *testing.T) {
	big := strings.Repeat("b", 256)
	found := 0
	for blocks := 10; blocks < 30; blocks++ {
		for _, work := range []int{1, 2, 3, 8} {
			x := opened(t, ladder(t, work, 1), high, blocks)
			x.connect(t, 1)
			x.says(t, 1, hello, opens, fanout, queue("q", 9), binds)
			for range 5 {
				x.turn(t, api.OK)
			}
			if len(x.f.Parts().Book.Binds()) == 0 {
				continue
			}
			x.turn(t, api.OK, risen(t, big, "small"), risen(t, "left"), risen(t, big), risen(t, "not mine"))
			seen := x.f.Parts().Seen
			if seen[low] != 0 {
				continue
			}
			found++
			if want := uint64(min(work-1, 1)); seen[left] != want || seen[right] != 0 || x.bodies("q") != []string{"", "left"}[want] {
				t.Errorf("%d blocks, work %d: %v, %q", blocks, work, seen, x.bodies("q"))
			}
		}
	}
	if found < 8 {
		t.Errorf("%d times a Pull had an error", found)
	}
}

// P29.2, P29.3: of each queue Give messages at most are handed out in a turn.
func TestGive(t *testing.T) {
	for give := 1; give <= 16; give++ {
		x := laid(t, 16, give, low)
		x.does(t, 1, queue("u", 64), method.Method{Channel: 1, Kind: method.Bind, Name: "a", Other: "u"}, method.Method{Channel: 2, Kind: method.Open}, takes(1, "q", 1), takes(2, "u", 2))
		x.says(t, 1, slices.Repeat([]method.Method{puts("x")}, 14)...)
		x.turn(t, api.OK)
		left := 14
		for left > 0 {
			var want []reply.Reply
			for n := range min(give, left) {
				want = append(want, sent(1, 1, uint64(2*(14-left+n)+1), false, "x"))
			}
			for n := range min(give, left) {
				want = append(want, sent(2, 2, uint64(2*(14-left+n)+2), false, "x"))
			}
			x.tells(t, is(1, want...))
			left -= min(give, left)
			x.turn(t, api.OK)
		}
		x.tells(t)
	}
}

// handed: to whom messages were handed out, each the client, the channel and the tag.
func handed(l []heard) [][3]uint64 {
	var all [][3]uint64
	for _, h := range l {
		for _, r := range h.replies {
			if r.Kind == reply.Sent {
				all = append(all, [3]uint64{h.client, uint64(r.Channel), r.M})
			}
		}
	}
	return all
}

// nextTaker: the next message of q is handed out to that one.
func (x *pair) nextTaker(t *testing.T, client, channel, tag uint64) {
	t.Helper()
	x.turn(t, api.OK)
	if got := handed(x.out(t)); !slices.Equal(got, [][3]uint64{{client, channel, tag}}) {
		t.Fatalf("%v, wanted %d, %d, %d", got, client, channel, tag)
	}
}

// P29.2: the next taker is the first one whose client, channel and tag are greater than the last one's; else the first. Takers of a channel
// stand in the order in which they came: of two, the second may have the lower tag, and is passed by.
func TestNextTaker(t *testing.T) {
	x := laid(t, 16, 1, low)
	x.begins(t, 2, 4)
	x.begins(t, 3, 1)
	x.says(t, 1, slices.Repeat([]method.Method{puts("x")}, 15)...)
	x.turn(t, api.OK)
	x.says(t, 1, slices.Repeat([]method.Method{puts("x")}, 16)...)
	x.turn(t, api.OK)
	x.does(t, 1, method.Method{Channel: 3, Kind: method.Open})
	x.tells(t)
	x.says(t, 1, takes(3, "q", 0), takes(1, "q", 5), takes(1, "q", 3), takes(1, "u", 9))
	x.says(t, 2, takes(4, "q", 255), takes(4, "q", 254))
	x.says(t, 3, takes(1, "u", 1))
	x.nextTaker(t, 1, 1, 5)
	x.nextTaker(t, 1, 3, 0)
	x.nextTaker(t, 2, 4, 255)
	x.nextTaker(t, 1, 1, 5) // neither 1, 1, 3 nor 2, 4, 254
	x.says(t, 1, method.Method{Channel: 1, Kind: method.Leave, N: 5})
	x.nextTaker(t, 1, 3, 0)
	x.nextTaker(t, 2, 4, 255)
	x.nextTaker(t, 1, 1, 3)
	x.says(t, 1, takes(1, "q", 5))
	x.nextTaker(t, 1, 1, 5)
	x.says(t, 3, takes(1, "q", 0))
	x.gone(t, 1, api.OK) // it was the last one
	x.turn(t, api.OK)
	if got := handed(x.out(t)); !slices.Equal(got, [][3]uint64{{2, 4, 255}}) {
		t.Errorf("%v", got)
	}
	x.nextTaker(t, 3, 1, 0)
	x.nextTaker(t, 2, 4, 255)
	x.gone(t, 3, api.OK)
	x.nextTaker(t, 2, 4, 255)
	x.begins(t, 4, 1)
	x.out(t)
	x.says(t, 4, takes(1, "q", 7))
	x.nextTaker(t, 4, 1, 7)
	x.nextTaker(t, 2, 4, 255)
}

// P29.2: who was served last of a queue is so of its name: where it is dropped, and comes again, too; each name has its own.
func TestServedByName(t *testing.T) {
	x := laid(t, 16, 1, low)
	x.begins(t, 2, 1)
	x.begins(t, 3, 1)
	x.says(t, 1, takes(1, "q", 1))
	x.says(t, 2, takes(1, "q", 1))
	x.says(t, 3, takes(1, "q", 1))
	x.turn(t, api.OK)
	x.out(t)
	x.says(t, 1, puts("x"))
	x.nextTaker(t, 1, 1, 1)
	x.says(t, 1, drops, queue("u", 9), queue("q", 9), binds, puts("x"), puts("y"), method.Method{Channel: 1, Kind: method.Bind, Name: "a", Other: "u"})
	x.nextTaker(t, 2, 1, 1)
	x.says(t, 1, drops)
	x.turn(t, api.OK)
	x.turn(t, api.OK)
	x.says(t, 1, queue("q", 9), binds, puts("z"), takes(1, "u", 2))
	x.says(t, 2, takes(1, "u", 2))
	x.turn(t, api.OK)
	if got := handed(x.out(t)); !slices.Equal(got, [][3]uint64{{1, 1, 2}, {3, 1, 1}}) {
		t.Errorf("%v", got)
	}
}

// P29.2: where no message is ready nobody is served, and it goes on with the next queue; who was served last stays.
func TestEmpty(t *testing.T) {
	x := laid(t, 16, 3, low)
	x.begins(t, 2, 1)
	x.does(t, 1, queue("u", 9), method.Method{Channel: 1, Kind: method.Bind, Name: "a", Other: "u"}, takes(1, "q", 1), takes(1, "u", 2))
	x.does(t, 2, takes(1, "q", 1))
	x.turn(t, api.OK)
	x.tells(t)
	for n := range uint64(5) {
		x.says(t, 1, puts("x"))
		x.turn(t, api.OK)
		if got := handed(x.out(t)); !slices.Equal(got, [][][3]uint64{{{1, 1, 1}, {1, 1, 2}}, {{1, 1, 2}, {2, 1, 1}}}[n%2]) {
			t.Errorf("%d: %v", n, got)
		}
		x.turn(t, api.OK)
		x.turn(t, api.OK)
		x.tells(t)
	}
}

// P29.2: messages are handed out to channels that have room alone; none to clients that fail, or are cut off, nor where there is no taker.
func TestWhoTakes(t *testing.T) {
	x := laid(t, 16, 4, low)
	x.begins(t, 2, 1)
	x.begins(t, 3, 1)
	x.says(t, 1, slices.Repeat([]method.Method{puts("x")}, 16)...)
	x.turn(t, api.OK)
	x.tells(t)
	x.does(t, 1, method.Method{Channel: 1, Kind: method.Credit, N: 2})
	x.says(t, 1, takes(1, "q", 1), takes(1, "none", 2))
	x.turn(t, api.OK)
	x.tells(t, is(1, done(1), done(1), sent(1, 1, 1, false, "x"), sent(1, 1, 2, false, "x")))
	x.turn(t, api.OK)
	x.tells(t)
	x.says(t, 2, takes(1, "q", 0), method.Method{Channel: 1, Kind: method.Credit, N: 1})
	x.says(t, 3, takes(1, "q", 0), method.Method{Channel: 1, Kind: method.Credit, N: 1})
	x.gone(t, 3, api.OK)
	x.says(t, 1, settles(1))
	x.turn(t, api.OK)
	x.tells(t, is(1, done(1), sent(1, 1, 4, false, "x")), is(2, done(1), done(1), sent(1, 0, 3, false, "x")))
	x.bytes(t, 2, bytesOf(t, settles(3), opens, opens)+"\xff\xff\xff\xff", api.OK) // its list isn't empty, its channel has room, but it fails
	x.turn(t, api.OK)
	x.tells(t, is(2, done(1), bye(api.ErrOrder)))
}

// P29.2: a client that is cut off isn't told anything more; what was unsettled with it is ready again, marked, behind what is handed out in
// that turn.
func TestCutOff(t *testing.T) {
	x := laid(t, 16, 2, low)
	x.begins(t, 2, 1, 2)
	x.does(t, 1, queue("u", 9), method.Method{Channel: 1, Kind: method.Bind, Name: "a", Other: "u"}, puts("x"), puts("y"))
	x.does(t, 2, gets, method.Method{Channel: 2, Kind: method.Get, Name: "u"}, method.Method{Channel: 1, Kind: method.Get, Name: "u"})
	since := x.total()
	x.says(t, 2, gets, gets)
	x.gone(t, 2, api.OK)
	x.says(t, 1, takes(1, "q", 1), takes(1, "u", 2))
	x.turn(t, api.OK)
	x.tells(t, is(1, done(1), done(1), sent(1, 1, 3, false, "y")))
	x.notes(t, since, "6")
	if got := x.f.Clients(); !slices.Equal(got, []uint64{1}) {
		t.Errorf("%v", got)
	}
	x.turn(t, api.OK)
	x.tells(t, is(1, sent(1, 1, 1, true, "x"), sent(1, 2, 2, true, "x"), sent(1, 2, 4, true, "y")))
}

// P29.2: what is unsettled where a session ends comes back together: where that has an error, none of it does, and nothing else is changed.
func TestEndTogether(t *testing.T) {
	x := laid(t, 16, 1, low)
	x.begins(t, 2, 1)
	x.does(t, 1, queue("u", 9), method.Method{Channel: 1, Kind: method.Bind, Name: "a", Other: "u"}, puts("x"))
	x.does(t, 2, gets, method.Method{Channel: 1, Kind: method.Get, Name: "u"})
	x.does(t, 1, drops)
	since := x.total()
	x.gone(t, 2, api.OK)
	x.turn(t, api.OK)
	x.notes(t, since, "6")
	if got := x.f.Clients(); !slices.Equal(got, []uint64{1}) || x.f.Parts().Stock.Line("u").Ready() != 0 {
		t.Errorf("%v, %s", got, shown(x.f.Parts()))
	}
}

// P29.2: in a turn, what several clients are told stands by the clients' numbers, whoever was told something first.
func TestReleased(t *testing.T) {
	x := laid(t, 16, 2, low)
	x.begins(t, 2, 1)
	x.begins(t, 3, 1)
	x.does(t, 1, queue("u", 9), method.Method{Channel: 1, Kind: method.Bind, Name: "a", Other: "u"}) // from 2 on now
	x.says(t, 3, takes(1, "q", 3), puts("x"))
	x.says(t, 1, takes(1, "u", 4))
	x.bytes(t, 2, "\xff\xff\xff\xff", api.OK)
	x.turn(t, api.OK)
	x.tells(t, is(1, done(1), sent(1, 4, 2, false, "x")), is(2, bye(api.ErrLong)), is(3, done(1), sent(1, 3, 1, false, "x")))
}

// P29.2: Turn at any tick, the last one, and one that isn't behind the one ahead.
func TestTicks(t *testing.T) {
	x := laid(t, 4, 1, high)
	for _, tick := range []uint64{math.MaxUint64, 0, 7, 7, math.MaxUint64 - 1, 3} {
		x.tick = tick
		lives := puts("x")
		lives.M = 1
		x.says(t, 1, lives, method.Method{Channel: 1, Kind: method.MakeShop, Name: "b", N: 4, Other: "right"})
		x.turn(t, api.OK, risen(t, "y"))
		n, _ := x.f.Parts().Notes.Get(x.total())
		if n.Tick != tick || n.Kind != store.Refused {
			t.Errorf("at %d: %+v", tick, n)
		}
		x.out(t)
	}
}
