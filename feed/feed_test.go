package feed

import (
	"slices"
	"strings"
	"testing"

	"stairwell/api"
	"stairwell/frame"
)

// longest: how many bytes the longest frame has.
const longest = 2048 + 9

// bytesOf: some frames' bytes, one frame's behind the other's.
func bytesOf(t *testing.T, l ...frame.Frame) string {
	t.Helper()
	all := ""
	for _, f := range l {
		s, code := frame.Bytes(f)
		if code != api.OK {
			t.Fatal(code)
		}
		all += s
	}
	return all
}

// few: frames of few bytes, the last one just like the first.
func few() []frame.Frame {
	return []frame.Frame{{Channel: 1, Kind: 2}, {Channel: 206, Kind: 3, Body: "ab"}, {Kind: 255, Body: "\x00\xce\xff"}, {Channel: 1, Kind: 2}}
}

// outcome is what a feed is to tell, behind all bytes that came.
type outcome struct {
	frames []frame.Frame
	rest   string
	err    api.Errno
}

// holds: a feed, and all frames that it told, are as wanted.
func holds(t *testing.T, what string, f Feed, got []frame.Frame, want outcome) {
	t.Helper()
	if !slices.Equal(got, want.frames) || f.Rest() != want.rest || f.Err() != want.err {
		t.Fatalf("%s: %#v, %q, %d, wanted %#v, %q, %d", what, got, f.Rest(), f.Err(), want.frames, want.rest, want.err)
	}
}

// fed: a feed behind some pieces, and all frames that it told.
func fed(f Feed, pieces ...string) (Feed, []frame.Frame) {
	var all []frame.Frame
	for _, piece := range pieces {
		next, l := f.Take(piece)
		f = next
		all = append(all, l...)
	}
	return f, all
}

// ill is bytes that begin with no frame, and the error of these.
type ill struct {
	bytes string
	err   api.Errno
}

// ills: bytes of each error that isn't that they are too short, none longer than it must be to tell it.
func ills(t *testing.T) []ill {
	t.Helper()
	whole := bytesOf(t, frame.Frame{Channel: 4, Kind: 1, Body: "ill"})
	end := len(whole) - 1
	return []ill{
		{"\x00\x00\x08\x01", api.ErrLong},
		{"\xff\xff\xff\xff", api.ErrLong},
		{whole[:end] + "\xcd", api.ErrForm},
		{"\x04\x02" + whole[2:end] + "\x00", api.ErrForm},
		{"\x04\x02" + whole[2:], api.ErrSum},
		{"\x00\x00\x00\x00\x00\x00\x00\x00\xce", api.ErrSum},
	}
}

// P8.1: the zero feed has nothing, and no error; nothing comes of nothing.
func TestZero(t *testing.T) {
	var f Feed
	holds(t, "zero", f, nil, outcome{})
	f, l := fed(f, "", "", "")
	holds(t, "of pieces without bytes", f, l, outcome{})
}

// P8.1, and the document's example: two frames, in three pieces, cut in all ways.
func TestExample(t *testing.T) {
	two := few()[1:3]
	s := bytesOf(t, two...)
	for a := range len(s) + 1 {
		for b := a; b <= len(s); b++ {
			f, l := fed(Feed{}, s[:a], s[a:b], s[b:])
			holds(t, "two frames", f, l, outcome{frames: two})
		}
	}
}

// P8.1: a frame is told by just that piece which ends it; what isn't a frame yet is kept, from its first byte on.
func TestTakeByteByByte(t *testing.T) {
	l := append(few(), frame.Frame{Channel: 2, Kind: 9, Body: strings.Repeat("\xce", 2048)}, frame.Frame{})
	var f Feed
	for _, one := range l {
		s := bytesOf(t, one)
		for at := range len(s) - 1 {
			next, none := f.Take(s[at : at+1])
			f = next
			holds(t, "ahead of the last byte", f, none, outcome{rest: s[:at+1]})
		}
		next, told := f.Take(s[len(s)-1:])
		f = next
		holds(t, "with the last byte", f, told, outcome{frames: []frame.Frame{one}})
	}
}

// P8.1: many frames by one piece, in their order, and the beginning of one more.
func TestTakeMany(t *testing.T) {
	var l []frame.Frame
	for n := range 600 {
		l = append(l, frame.Frame{Channel: uint8(n), Kind: uint8(n / 256), Body: strings.Repeat("m", n%50)})
	}
	s := bytesOf(t, l...)
	begun := bytesOf(t, frame.Frame{Body: "one more"})[:11]
	f, told := Feed{}.Take(s + begun)
	holds(t, "many", f, told, outcome{frames: l, rest: begun})
	f, told = Feed{}.Take(begun[:0] + s)
	holds(t, "many, and no more", f, told, outcome{frames: l})
}

// P8.1: an error, behind any number of whole frames: these are told, nothing is kept.
func TestError(t *testing.T) {
	for _, bad := range ills(t) {
		for n := range len(few()) + 1 {
			l := few()[:n]
			f, told := Feed{}.Take(bytesOf(t, l...) + bad.bytes)
			holds(t, "by one piece", f, told, outcome{frames: l, err: bad.err})
			f, told = fed(Feed{}, bytesOf(t, l...), bad.bytes)
			holds(t, "by a piece of its own", f, told, outcome{frames: l, err: bad.err})
		}
	}
}

// P8.1: the error is told as soon as its last byte is there, and not ahead of that.
func TestErrorWhen(t *testing.T) {
	for _, bad := range ills(t) {
		for at := range len(bad.bytes) {
			f, l := Feed{}.Take(bad.bytes[:at])
			holds(t, "ahead of the error", f, l, outcome{rest: bad.bytes[:at]})
			f, l = f.Take(bad.bytes[at:])
			holds(t, "with the error", f, l, outcome{err: bad.err})
		}
	}
}

// P8.1: of what comes behind an error, by the same piece or by others, nothing is read; the first error stays.
func TestBehindError(t *testing.T) {
	good := bytesOf(t, few()...)
	for _, bad := range ills(t) {
		want := outcome{frames: few()[:1], err: bad.err}
		ahead := bytesOf(t, few()[0])
		f, l := Feed{}.Take(ahead + bad.bytes + good)
		holds(t, "by the same piece", f, l, want)
		for _, other := range ills(t) {
			g, l := fed(Feed{}, ahead, bad.bytes+other.bytes, other.bytes, good)
			holds(t, "another error behind", g, l, want)
		}
		for _, piece := range []string{"", "\xce", good, good[:5], bad.bytes, strings.Repeat("\x00", 3*longest)} {
			g, none := f.Take(piece)
			holds(t, "by another piece", g, none, outcome{err: bad.err})
			g, none = fed(g, piece, good)
			holds(t, "by others", g, none, outcome{err: bad.err})
		}
	}
}

// P8.1: pieces without bytes change nothing: ahead, behind, within a frame, and behind an error.
func TestEmptyPieces(t *testing.T) {
	s := bytesOf(t, few()...)
	for at := range len(s) + 1 {
		f, l := fed(Feed{}, "", s[:at])
		g, none := fed(f, "", "")
		holds(t, "within", g, none, outcome{rest: f.Rest()})
		g, more := fed(g, s[at:], "")
		holds(t, "behind", g, append(l, more...), outcome{frames: few()})
	}
	for _, bad := range ills(t) {
		f, l := fed(Feed{}, bad.bytes, "", "")
		holds(t, "behind an error", f, l, outcome{err: bad.err})
	}
}

// P8.1: a feed stays as it was: what is taken from it twice is told twice, whatever else is taken between.
func TestTakenTwice(t *testing.T) {
	s := bytesOf(t, few()...)
	for at := range len(s) + 1 {
		f, _ := Feed{}.Take(s[:at])
		rest := f.Rest()
		a, first := f.Take(s[at:])
		for _, bad := range ills(t) {
			f.Take(bad.bytes)
			f.Take(strings.Repeat("\xff", longest))
		}
		f.Take(s[at : (at+len(s))/2])
		holds(t, "it", f, nil, outcome{rest: rest})
		b, second := f.Take(s[at:])
		holds(t, "the first", a, nil, outcome{})
		holds(t, "the second", b, second, outcome{frames: first})
	}
	for _, bad := range ills(t) {
		f, _ := Feed{}.Take(bad.bytes[:3])
		g, _ := f.Take(bad.bytes[3:])
		holds(t, "ahead of an error", f, nil, outcome{rest: bad.bytes[:3]})
		g.Take(s)
		holds(t, "behind an error", g, nil, outcome{err: bad.err})
	}
}

// Memory: what is done to the frames that were told changes none that are told elsewhere.
func TestFramesAreNew(t *testing.T) {
	s := bytesOf(t, few()...)
	f, _ := Feed{}.Take(s[:4])
	_, a := f.Take(s[4:])
	_, b := f.Take(s[4:])
	for at := range a {
		a[at] = frame.Frame{Channel: 99}
	}
	_, c := f.Take(s[4:])
	if !slices.Equal(b, few()) || !slices.Equal(c, few()) {
		t.Errorf("%#v, %#v", b, c)
	}
}

// stream is bytes that come, and what is told of them.
type stream struct {
	bytes string
	want  outcome
}

// streams: of whole frames alone, with the beginning of one, and with each error, behind which there come more bytes, or
// none.
func streams(t *testing.T) []stream {
	t.Helper()
	l := few()
	good := bytesOf(t, l...)
	held := frame.Frame{Channel: 7, Kind: 7, Body: good} // its bytes have frames within
	inner := bytesOf(t, held)
	all := []stream{
		{"", outcome{}},
		{"\xce", outcome{rest: "\xce"}},
		{good, outcome{frames: l}},
		{good + "\x00", outcome{frames: l, rest: "\x00"}},
		{good + inner, outcome{frames: append(few(), held)}},
		{inner + good, outcome{frames: append([]frame.Frame{held}, l...)}},
		{good[:19], outcome{frames: l[:1], rest: good[9:19]}},
		{good[:20], outcome{frames: l[:2]}},
		// A byte missing, or too many: other bytes stand where the length stood, so that it is too great, or more is
		// awaited than there is.
		{inner[1:], outcome{err: api.ErrLong}},
		{"\xff" + inner, outcome{rest: "\xff" + inner}},
	}
	for _, bad := range ills(t) {
		all = append(all,
			stream{bad.bytes + good, outcome{err: bad.err}},
			stream{good + bad.bytes, outcome{frames: l, err: bad.err}},
			stream{good + bad.bytes + good, outcome{frames: l, err: bad.err}},
			stream{good + bad.bytes[:3], outcome{frames: l, rest: bad.bytes[:3]}},
		)
	}
	return all
}

// pieces: bytes in pieces of such lengths, the last one maybe shorter.
func pieces(s string, length func() int) []string {
	var l []string
	for s != "" {
		n := min(length(), len(s))
		l = append(l, s[:n])
		s = s[n:]
	}
	return l
}

// evenly: bytes in pieces of that length.
func evenly(s string, length int) []string { return pieces(s, func() int { return length }) }

// P8.2: cut into up to three pieces, in all ways.
func TestCutInThree(t *testing.T) {
	for _, one := range streams(t) {
		s := one.bytes
		for a := range len(s) + 1 {
			for b := a; b <= len(s); b++ {
				f, l := fed(Feed{}, s[:a], s[a:b], s[b:])
				holds(t, "cut", f, l, one.want)
			}
		}
	}
}

// P8.2: cut into pieces as long as each other, from one byte on.
func TestCutEvenly(t *testing.T) {
	for _, one := range streams(t) {
		for length := range len(one.bytes) {
			f, l := fed(Feed{}, evenly(one.bytes, length+1)...)
			holds(t, "cut evenly", f, l, one.want)
		}
	}
}

// P8.2: cut into unlike pieces, of a fixed rule, pieces without bytes among them.
func TestCutUnevenly(t *testing.T) {
	r := uint32(1)
	for _, one := range streams(t) {
		for most := range 20 {
			length := func() int {
				r = r*1664525 + 1013904223
				return int(r>>16) % (most + 2)
			}
			f, l := fed(Feed{}, pieces(one.bytes, length)...)
			holds(t, "cut unevenly", f, l, one.want)
		}
	}
}

// P8.2: what is kept has fewer bytes than the longest frame, whatever came: just one fewer at most.
func TestKeptIsBounded(t *testing.T) {
	most := frame.Frame{Channel: 1, Kind: 1, Body: strings.Repeat("\xce", 2048)}
	s := bytesOf(t, most)
	if len(s) != longest {
		t.Fatalf("%d bytes", len(s))
	}
	f, l := Feed{}.Take(s + s[:longest-1])
	holds(t, "all but a byte", f, l, outcome{frames: []frame.Frame{most}, rest: s[:longest-1]})
	g, l := f.Take(s[longest-1:])
	holds(t, "that byte", g, l, outcome{frames: []frame.Frame{most}})
	g, l = f.Take("\x00")
	holds(t, "another byte", g, l, outcome{err: api.ErrForm})
	for b := range 256 {
		g := Feed{}
		for range 3 * longest {
			g, _ = g.Take(string([]byte{byte(b)}))
			if len(g.Rest()) >= longest || g.Err() != api.OK && g.Rest() != "" {
				t.Fatalf("of bytes %d: %d kept, %d", b, len(g.Rest()), g.Err())
			}
		}
	}
}

// P8.2: each bit of some frames turned: the frames ahead are told, and frames and error are those of all bytes at once,
// however they are cut.
func TestTurnedAndCut(t *testing.T) {
	ahead := ""
	for n, one := range few() {
		this := bytesOf(t, one)
		behind := bytesOf(t, few()[n+1:]...)
		for bit := range 8 * len(this) {
			b := []byte(this)
			b[bit/8] ^= 1 << (bit % 8)
			turned := ahead + string(b) + behind
			f, l := Feed{}.Take(turned)
			want := outcome{few()[:n], f.Rest(), f.Err()}
			holds(t, "at once", f, l, want)
			for _, cut := range [][]string{evenly(turned, 1), evenly(turned, 7), {ahead, string(b), behind}, {ahead + string(b), behind}} {
				f, l := fed(Feed{}, cut...)
				holds(t, "cut", f, l, want)
			}
		}
		ahead += this
	}
}
