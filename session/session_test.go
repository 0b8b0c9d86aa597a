package session

import (
	"math/rand"
	"slices"
	"strings"
	"testing"

	"stairwell/api"
	"stairwell/frame"
	"stairwell/line"
	"stairwell/method"
)

// hello: the method that is first.
var hello = method.Method{Kind: method.Hello, N: 1}

// talk: methods of all kinds, one behind the other.
func talk() []method.Method { return append(each(0), each(3)...) }

// taken: what Take tells of chunks, one behind the other, up to the first error.
func taken(s Session, chunks ...string) (Session, []method.Method, api.Errno) {
	var all []method.Method
	for _, chunk := range chunks {
		more, l, code := s.Take(chunk)
		s, all = more, append(all, l...)
		if code != api.OK {
			return s, all, code
		}
	}
	return s, all, api.OK
}

// tellsTaken: chunks are told as just these methods, and that error.
func tellsTaken(t *testing.T, what string, want []method.Method, e api.Errno, chunks ...string) Session {
	t.Helper()
	s, got, code := taken(New("low"), chunks...)
	if code != e || !slices.EqualFunc(got, want, method.Same) {
		t.Fatalf("%s: %+v, %d, wanted %+v, %d", what, got, code, want, e)
	}
	return s
}

// P28.1: New: not begun, not over, of nothing.
func TestNew(t *testing.T) {
	for _, place := range []string{"low", "a", strings.Repeat("p", 16), ""} {
		s := New(place)
		tells(t, place, s, plain{place: place})
		if s.Begun() || s.Over() || len(s.Takers()) != 0 {
			t.Errorf("%v, %v, %v", s.Begun(), s.Over(), s.Takers())
		}
	}
	if w := begun(t); !w.s.Begun() || w.s.Over() {
		t.Errorf("%v, %v", w.s.Begun(), w.s.Over())
	}
}

// P28.1: Begun and Over behind Hello, and behind End.
func TestBegun(t *testing.T) {
	ended := fresh().end(t)
	if ended.s.Begun() || !ended.s.Over() {
		t.Errorf("%v, %v", ended.s.Begun(), ended.s.Over())
	}
	ended = begun(t, 1).end(t)
	if !ended.s.Begun() || !ended.s.Over() {
		t.Errorf("%v, %v", ended.s.Begun(), ended.s.Over())
	}
	if again := ended.end(t); !again.s.Begun() || !again.s.Over() {
		t.Errorf("%v, %v", again.s.Begun(), again.s.Over())
	}
}

// P28.1: Take of each kind of method, alone, and of all at once, whether the session has begun or not.
func TestTake(t *testing.T) {
	for _, channel := range []uint8{0, 1, 4, 5, 255} {
		for _, m := range each(channel) {
			tellsTaken(t, "alone", []method.Method{m}, api.OK, bytesOf(t, m))
		}
		tellsTaken(t, "all", each(channel), api.OK, bytesOf(t, each(channel)...))
	}
	for _, s := range []Session{New("low"), begun(t).s, begun(t, 1, 3).s} {
		more, l, code := s.Take(bytesOf(t, talk()...))
		if code != api.OK || !slices.EqualFunc(l, talk(), method.Same) {
			t.Errorf("%+v, %d", l, code)
		}
		if more.Begun() != s.Begun() || more.Over() {
			t.Error("it has begun by bytes alone")
		}
	}
	tellsTaken(t, "nothing", nil, api.OK, "")
	tellsTaken(t, "none", nil, api.OK)
}

// P28.1: bytes cut at each place, at each two of a row, into bytes, and in many ways, are the same methods.
func TestTakeCut(t *testing.T) {
	all := bytesOf(t, talk()...)
	for at := range len(all) + 1 {
		tellsTaken(t, "in two", talk(), api.OK, all[:at], all[at:])
		tellsTaken(t, "in three", talk(), api.OK, all[:at], "", all[at:])
	}
	short := []method.Method{hello, {Channel: 1, Kind: method.Open}, {Channel: 1, Kind: method.Get, Name: "q"}}
	row := bytesOf(t, short...)
	for first := range len(row) + 1 {
		for second := first; second <= len(row); second++ {
			tellsTaken(t, "in three", short, api.OK, row[:first], row[first:second], row[second:])
		}
	}
	for seed := range int64(100) {
		r := rand.New(rand.NewSource(seed))
		var chunks []string
		for rest := all; rest != ""; {
			n := min(1+r.Intn(1+r.Intn(90)), len(rest))
			chunks, rest = append(chunks, rest[:n]), rest[n:]
		}
		tellsTaken(t, "in many", talk(), api.OK, chunks...)
	}
	var bytes []string
	for at := range len(all) {
		bytes = append(bytes, all[at:at+1])
	}
	tellsTaken(t, "byte by byte", talk(), api.OK, bytes...)
}

// P28.1: a session keeps the bytes that aren't a frame yet, and each session its own.
func TestTakeApart(t *testing.T) {
	first, second := method.Method{Channel: 1, Kind: method.Get, Name: "first"}, method.Method{Channel: 1, Kind: method.Get, Name: "other"}
	a, b := bytesOf(t, first), bytesOf(t, second)
	s, l, code := New("low").Take(a[:4])
	if code != api.OK || len(l) != 0 {
		t.Fatalf("%+v, %d", l, code)
	}
	for range 2 {
		if _, l, code := s.Take(a[4:]); code != api.OK || len(l) != 1 || !method.Same(l[0], first) {
			t.Errorf("%+v, %d", l, code)
		}
		if _, l, code := s.Take(b[4:]); code != api.OK || len(l) != 1 || !method.Same(l[0], second) { // both begin alike
			t.Errorf("%+v, %d", l, code)
		}
		if _, l, code := s.Take(""); code != api.OK || len(l) != 0 {
			t.Errorf("%+v, %d", l, code)
		}
	}
	if _, l, code := New("low").Take(a[4:]); code == api.OK && len(l) > 0 {
		t.Errorf("%+v, %d", l, code)
	}
}

// wrong: frames that are no method's, each with its error.
func wrong() []struct {
	f frame.Frame
	e api.Errno
} {
	return []struct {
		f frame.Frame
		e api.Errno
	}{
		{frame.Frame{Channel: 1, Kind: 21}, api.ErrKind}, {frame.Frame{Kind: 64}, api.ErrKind}, {frame.Frame{Kind: 255}, api.ErrKind},
		{frame.Frame{Kind: method.Hello}, api.ErrShort}, {frame.Frame{Channel: 1, Kind: method.Open, Body: "x"}, api.ErrForm},
		{frame.Frame{Channel: 1, Kind: method.Get, Body: "\x00\x00"}, api.ErrEmpty}, {frame.Frame{Channel: 1, Kind: method.Get, Body: "\x00\x01Q"}, api.ErrForm},
		{frame.Frame{Channel: 1, Kind: method.Get, Body: "\x00\x11" + strings.Repeat("q", 17)}, api.ErrLong},
		{frame.Frame{Channel: 1, Kind: method.Settle, Body: strings.Repeat("\x00", 16) + "\x02"}, api.ErrForm},
		{frame.Frame{Channel: 1, Kind: method.Put, Body: "\x00\x01a\x00\x00\x09"}, api.ErrMany},
	}
}

// P28.1: a frame that is no method's: its error, behind the methods ahead of it, wherever the bytes are cut; what stands behind it in
// the same chunk isn't told, what comes in the next one is.
func TestTakeNoMethod(t *testing.T) {
	ahead := []method.Method{hello, {Channel: 1, Kind: method.Open}}
	behind := []method.Method{{Channel: 1, Kind: method.Sure}, {Channel: 1, Kind: method.Close}}
	for _, x := range wrong() {
		if _, code := method.Of(x.f); code != x.e {
			t.Fatalf("%+v: %d", x.f, code)
		}
		bad := framed(t, x.f)
		tellsTaken(t, "alone", nil, x.e, bad)
		tellsTaken(t, "ahead of others", nil, x.e, bad+bytesOf(t, behind...))
		tellsTaken(t, "behind others", ahead, x.e, bytesOf(t, ahead...)+bad)
		all := bytesOf(t, ahead...) + bad + bytesOf(t, behind...)
		for at := range len(all) + 1 {
			s := tellsTaken(t, "between others", ahead, x.e, all[:at], all[at:])
			more, l, code := s.Take("")
			if code != api.OK || len(l) != 0 {
				t.Fatalf("behind it: %+v, %d", l, code)
			}
			for second := at; second <= len(all); second += 7 {
				tellsTaken(t, "in three", ahead, x.e, all[:at], all[at:second], all[second:])
			}
			if at >= len(bytesOf(t, ahead...)+bad) {
				continue // the second chunk isn't taken any more, as the first one has the error
			}
			if _, l, code := more.Take(bytesOf(t, behind...)); code != api.OK || !slices.EqualFunc(l, behind, method.Same) {
				t.Fatalf("in the next chunk: %+v, %d", l, code)
			}
		}
		if _, _, code := tellsTaken(t, "two", nil, x.e, bad+framed(t, frame.Frame{Kind: 99})).Take(""); code != api.OK {
			t.Errorf("behind two: %d", code)
		}
	}
}

// P28.1: of two frames that are no method's the first one's error.
func TestTakeTwoWrong(t *testing.T) {
	for _, first := range wrong() {
		for _, second := range wrong() {
			tellsTaken(t, "two", []method.Method{hello}, first.e, bytesOf(t, hello)+framed(t, first.f)+framed(t, second.f))
		}
	}
}

// P28.1: bytes that are no frame: the feed's error, behind the methods ahead of it; it stays, whatever comes.
func TestTakeNoFrame(t *testing.T) {
	ahead := []method.Method{hello, {Channel: 1, Kind: method.Open}}
	good := bytesOf(t, method.Method{Channel: 1, Kind: method.Sure})
	turned := func(at int) string {
		b := []byte(good)
		b[at] ^= 1
		return string(b)
	}
	for _, x := range []struct {
		bad string
		e   api.Errno
	}{{turned(0), api.ErrSum}, {turned(1), api.ErrSum}, {turned(5), api.ErrSum}, {turned(8), api.ErrForm}, {"\x01\x11\x08\x01", api.ErrLong}, {"\xff\xff\xff\xff", api.ErrLong}} {
		all := bytesOf(t, ahead...) + x.bad + good
		for at := range len(all) + 1 {
			s := tellsTaken(t, "no frame", ahead, x.e, all[:at], all[at:])
			for _, chunk := range []string{"", good, all, "x"} {
				more, l, code := s.Take(chunk)
				if code != x.e || len(l) != 0 {
					t.Fatalf("behind it: %+v, %d", l, code)
				}
				s = more
			}
			if s.Over() || s.Begun() {
				t.Error("it has begun, or is over")
			}
		}
	}
}

// P28.1: the error of a frame that is no method's is told ahead of the feed's behind it, that by the next Take; the feed's ahead of it alone.
func TestTakeBoth(t *testing.T) {
	for _, x := range wrong() {
		s := tellsTaken(t, "both", []method.Method{hello}, x.e, bytesOf(t, hello)+framed(t, x.f)+"\xff\xff\xff\xff")
		for range 2 {
			if _, l, code := s.Take(bytesOf(t, hello)); code != api.ErrLong || len(l) != 0 {
				t.Errorf("%+v, %d", l, code)
			}
		}
		tellsTaken(t, "the feed's first", []method.Method{hello}, api.ErrLong, bytesOf(t, hello)+"\xff\xff\xff\xff"+framed(t, x.f))
	}
}

// P28.1: Take where the session is over: none, ErrClosed, ahead of all that is wrong with the bytes.
func TestTakeOver(t *testing.T) {
	good := bytesOf(t, hello)
	part, _, _ := New("low").Take(good[:5])
	failed, _, _ := New("low").Take("\xff\xff\xff\xff")
	for _, s := range []Session{New("low"), part, failed, begun(t, 1, 2).lent(t, 1, 5).s} {
		over, _ := s.End(1)
		for _, chunk := range []string{"", good, good[5:], "\xff\xff\xff\xff", framed(t, frame.Frame{Kind: 99})} {
			more, l, code := over.Take(chunk)
			if code != api.ErrClosed || len(l) != 0 || !more.Over() || more.Begun() != s.Begun() {
				t.Errorf("%+v, %d", l, code)
			}
			over = more
		}
	}
}

// P28.3: End of what is unsettled on several channels, by rising channels, in order, at its tick; what a draft settles is unsettled yet.
func TestEnd(t *testing.T) {
	begun(t).end(t)
	begun(t, 1, 2, 3, 4).end(t)
	w := begun(t, 4, 1, 3).lent(t, 4, 9, 2).lent(t, 1, 5).lent(t, 3, 1).lent(t, 4, 3).lent(t, 1, 4)
	w = w.says(t, method.Method{Channel: 4, Kind: method.Draft}, method.Method{Channel: 4, Kind: method.Settle, N: 2})
	over := w.end(t, settle(5, 2), settle(4, 2), settle(1, 2), settle(9, 2), settle(2, 2), settle(3, 2))
	over.end(t)
	for _, tick := range []uint64{0, 1, most} {
		_, l := w.s.End(tick)
		for _, d := range l {
			if d.Tick != tick {
				t.Errorf("%+v at %d", d, tick)
			}
		}
		if len(l) != 6 {
			t.Errorf("%+v", l)
		}
	}
	for _, channel := range []uint8{0, 1, 3, 4, 5} {
		for _, m := range each(channel) {
			over.refuses(t, "over", m, api.ErrClosed)
		}
		if _, r := over.s.Sent(Taker{channel, 1, "q"}, line.Item{Mail: api.Mail{ID: 1, Shop: "a"}}); r.N != 0 || r.Kind != 0 {
			t.Errorf("%d: %+v", channel, r)
		}
	}
}
