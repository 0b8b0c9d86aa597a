package reply

import (
	"encoding/binary"
	"math"
	"reflect"
	"slices"
	"strconv"
	"strings"
	"testing"

	"stairwell/api"
	"stairwell/feed"
	"stairwell/frame"
	"stairwell/head"
	"stairwell/octet"
	"stairwell/words"
)

// table: of each kind what it tells, in the order of its bytes, as the document's table has it.
var table = []string{
	"Name",
	"",
	"N",
	"N M Yes Shop Key Head Body",
	"",
	"N",
	"N M",
	"N",
}

// all: what there is to tell, and what is never told.
var all = strings.Fields("N M Yes Name Shop Key Head Body ID Due Hops")

const (
	name16 = "sixteen-bytes-it"
	name17 = "seventeen-bytes-a"
)

// told: what a kind tells.
func told(kind uint8) []string { return strings.Fields(table[kind]) }

// untold: what it doesn't.
func untold(kind uint8) []string {
	return slices.DeleteFunc(slices.Clone(all), func(one string) bool { return slices.Contains(told(kind), one) })
}

// field: something of a reply, or of its message.
func field(r *Reply, one string) reflect.Value {
	v := reflect.ValueOf(r).Elem()
	if v.FieldByName(one).IsValid() {
		return v.FieldByName(one)
	}
	return v.FieldByName("Mail").FieldByName(one)
}

// with: the reply, something of it being that.
func with(r Reply, one string, value any) Reply {
	field(&r, one).Set(reflect.ValueOf(value))
	return r
}

// pair: a pair, whether it may be or not.
func pair(key string, kind uint8, num int64, text string) api.Pair {
	return api.Pair{Key: key, Kind: kind, Num: num, Text: text}
}

// keyed: so many pairs of unlike keys.
func keyed(n int) []api.Pair {
	var l []api.Pair
	for at := range n {
		l = append(l, pair("k"+strconv.Itoa(at), 0, int64(at)-3, ""))
	}
	return l
}

// long: a text of so many bytes, any bytes.
func long(n int) string {
	b := make([]byte, n)
	for at := range b {
		b[at] = byte(at*at*5 + at*37 + 254)
	}
	return string(b)
}

// wordy: a key of so many bytes, of several words.
func wordy(n int) string { return strings.Repeat("ab.", n)[:n-1] + "z" }

// fullest: a head of as many bytes as one may have.
func fullest() []api.Pair {
	h := keyed(8)
	for at := range h {
		h[at] = pair(name16[:15]+strconv.Itoa(at), 1, 0, long(64))
	}
	return h
}

// mayBe: of what is told values that may be, its edges among them; the first one is the least, the last one the
// longest.
func mayBe(one string) []any {
	var l []any
	switch one {
	case "Name", "Shop":
		l = append(l, "a", "b", "-", "_", "0", "a-b_0", name16)
	case "Key":
		l = append(l, "", "a", "a.b", "a.b.c", "-._.0", wordy(63), strings.Repeat("k", 64), wordy(64))
	case "Head":
		l = append(l, []api.Pair(nil), []api.Pair{}, keyed(1), keyed(7), keyed(8),
			[]api.Pair{pair("a", 0, math.MinInt64, ""), pair("b", 0, math.MaxInt64, "")},
			[]api.Pair{pair("b", 1, 0, ""), pair("a", 1, 0, "\x00\x01a"), pair("c", 2, 0, ""), pair("d", 2, 1, "")}, fullest())
	case "Body":
		l = append(l, "", "x", "\x00", "\x00\x01x", "\xff\xc3\xa9", long(64), long(65), long(255), long(256))
	case "N", "M", "ID", "Due":
		for _, n := range []uint64{0, 1, 2, 3, 4, 255, 256, 257, 65536, 1 << 32, 1 << 63, 0x0102030405060708, math.MaxUint64 - 1, math.MaxUint64} {
			l = append(l, n)
		}
	case "Hops":
		l = append(l, uint8(0), uint8(1), uint8(4), uint8(5), uint8(255))
	case "Yes":
		l = append(l, false, true)
	}
	return l
}

// wrong is a value that may not be, and what is said of it.
type wrong struct {
	value any
	want  api.Errno
}

// mayNot: of what is told values that may not be.
func mayNot(one string) []wrong {
	var l []wrong
	switch one {
	case "Name", "Shop":
		l = append(l, wrong{"", api.ErrEmpty}, wrong{name17, api.ErrLong}, wrong{strings.Repeat("A", 17), api.ErrLong}, wrong{long(256), api.ErrLong}, wrong{long(65536), api.ErrLong})
		for _, s := range []string{"A", "a.b", "*", "#", " ", "a ", "\x00", "é", name16[:15] + "/"} {
			l = append(l, wrong{s, api.ErrForm})
		}
	case "Key":
		l = append(l, wrong{wordy(65), api.ErrLong}, wrong{strings.Repeat("A", 65), api.ErrLong}, wrong{strings.Repeat("*.", 32) + "*", api.ErrLong}, wrong{long(65536), api.ErrLong})
		for _, s := range []string{"A", ".", "a.", ".a", "a..b", "a b", "*", "#", "a.*.#", "**", "a*", "#a", "\x00", wordy(63) + "."} {
			l = append(l, wrong{s, api.ErrForm})
		}
	case "Head":
		l = append(l, wrong{keyed(9), api.ErrMany}, wrong{make([]api.Pair, 256), api.ErrMany},
			wrong{[]api.Pair{{}}, api.ErrEmpty}, wrong{[]api.Pair{pair(name17, 0, 0, "")}, api.ErrLong},
			wrong{[]api.Pair{pair("A", 0, 0, "")}, api.ErrForm}, wrong{[]api.Pair{pair("a", 3, 0, "")}, api.ErrKind},
			wrong{[]api.Pair{pair("a", 1, 0, long(65))}, api.ErrLong}, wrong{[]api.Pair{pair("a", 2, 2, "")}, api.ErrRange},
			wrong{[]api.Pair{pair("a", 0, 0, "x")}, api.ErrForm}, wrong{[]api.Pair{pair("a", 1, 1, "x")}, api.ErrForm},
			wrong{[]api.Pair{pair("a", 0, 0, ""), pair("b", 0, 0, ""), pair("a", 2, 1, "")}, api.ErrThere})
	case "Body":
		l = append(l, wrong{long(257), api.ErrLong}, wrong{long(512), api.ErrLong}, wrong{long(65535), api.ErrLong}, wrong{long(65536), api.ErrLong})
	}
	return l
}

// some: a reply of a kind, of each thing that it tells a value that may be: the least, the last, or one between.
func some(kind uint8, which int) Reply {
	r := Reply{Channel: uint8(which*85 + 1), Kind: kind}
	for _, one := range told(kind) {
		l := mayBe(one)
		r = with(r, one, l[min(which, len(l)-1)])
	}
	return r
}

// last is the number of the values that are the last ones.
const last = 99

// replies: replies that may be, of all kinds, at all edges.
func replies() []Reply {
	var l []Reply
	for kind := range uint8(8) {
		for _, which := range []int{0, 1, 2, last} {
			l = append(l, some(kind, which))
			for _, one := range told(kind) {
				for _, value := range mayBe(one) {
					l = append(l, with(some(kind, which), one, value))
				}
			}
		}
		for _, channel := range []uint8{0, 1, 4, 5, 64, 254, 255} {
			r := some(kind, 1)
			r.Channel = channel
			l = append(l, r)
		}
	}
	return l
}

// plainText: a text's bytes, as the document's words have them.
func plainText(s string) string {
	return string(binary.BigEndian.AppendUint16(nil, uint16(len(s)))) + s
}

// plainHead: a head's bytes, whether it may be or not.
func plainHead(h []api.Pair) string {
	s := string([]byte{byte(len(h))})
	for _, p := range h {
		s += plainText(p.Key) + string([]byte{p.Kind})
		switch p.Kind {
		case 0:
			s += string(binary.BigEndian.AppendUint64(nil, uint64(p.Num)))
		case 1:
			s += plainText(p.Text)
		case 2:
			s += string([]byte{byte(p.Num)})
		}
	}
	return s
}

// plainPart: the bytes of something that a reply tells.
func plainPart(r Reply, one string) string {
	switch value := field(&r, one).Interface().(type) {
	case string:
		return plainText(value)
	case []api.Pair:
		return plainHead(value)
	case uint64:
		return string(binary.BigEndian.AppendUint64(nil, value))
	case bool:
		if value {
			return "\x01"
		}
	}
	return "\x00"
}

// plain: a reply's frame, whether it may be or not.
func plain(r Reply) frame.Frame {
	f := frame.Frame{Channel: r.Channel, Kind: r.Kind + 64}
	for _, one := range told(r.Kind) {
		f.Body += plainPart(r, one)
	}
	return f
}

// alike: are two the same in all, a head without pairs being nil or empty?
func alike(a, b Reply) bool {
	if len(a.Mail.Head) == 0 && len(b.Mail.Head) == 0 {
		a.Mail.Head, b.Mail.Head = nil, nil
	}
	return reflect.DeepEqual(a, b)
}

// checked: what Check says, and Frame, too, and that of what may not be there are no bytes.
func checked(t *testing.T, r Reply, want api.Errno) {
	t.Helper()
	if got := r.Check(); got != want {
		t.Errorf("%#v: %d, wanted %d", r, got, want)
	}
	f, code := r.Frame()
	if code != want || code != api.OK && f != (frame.Frame{}) {
		t.Errorf("%#v: frame %#v, %d, wanted %d", r, f, code, want)
	}
	if s := Bytes([]Reply{r}); want != api.OK && s != "" {
		t.Errorf("%#v: bytes %x", r, s)
	}
}

// refuses: a frame of which no reply is read, with that error.
func refuses(t *testing.T, f frame.Frame, want api.Errno) {
	t.Helper()
	if r, code := Of(f); code != want || !reflect.DeepEqual(r, Reply{}) {
		t.Errorf("%#v: %#v, %d, wanted %d", f, r, code, want)
	}
}

// P12.1: the kinds, and the tag of what was asked by Get.
func TestKinds(t *testing.T) {
	for kind, number := range []int{Welcome, Done, Refused, Sent, Nothing, Kept, Lost, Bye} {
		if number != kind {
			t.Errorf("kind %d is %d", kind, number)
		}
	}
	if GetTag != 256 {
		t.Errorf("GetTag is %d", GetTag)
	}
}

// P12.1: replies that may be, of all kinds; their frames.
func TestCheckRight(t *testing.T) {
	for _, r := range replies() {
		checked(t, r, api.OK)
		if f, _ := r.Frame(); f != plain(r) {
			t.Errorf("%#v: %#v, wanted %#v", r, f, plain(r))
		}
	}
}

// P12.1, P12.2: frames that are known, of each kind.
func TestFrameKnown(t *testing.T) {
	const eight = "\x01\x02\x03\x04\x05\x06\x07\x08"
	const n = 0x0102030405060708
	h := []api.Pair{pair("p", 2, 1, "")}
	for _, c := range []struct {
		r    Reply
		kind uint8
		body string
	}{
		{Reply{Kind: Welcome, Name: "low"}, 64, "\x00\x03low"},
		{Reply{Kind: Done}, 65, ""},
		{Reply{Kind: Refused, N: 13}, 66, "\x00\x00\x00\x00\x00\x00\x00\x0d"},
		{Reply{Kind: Sent, N: n, M: GetTag, Yes: true, Mail: api.Mail{Shop: "ab", Key: "k.l", Head: h, Body: "xyz"}}, 67,
			eight + "\x00\x00\x00\x00\x00\x00\x01\x00\x01\x00\x02ab\x00\x03k.l\x01\x00\x01p\x02\x01\x00\x03xyz"},
		{Reply{Kind: Sent, Mail: api.Mail{Shop: "a"}}, 67, strings.Repeat("\x00", 17) + "\x00\x01a\x00\x00\x00\x00\x00"},
		{Reply{Kind: Nothing}, 68, ""},
		{Reply{Kind: Kept, N: n}, 69, eight},
		{Reply{Kind: Lost, N: n, M: math.MaxUint64}, 70, eight + "\xff\xff\xff\xff\xff\xff\xff\xff"},
		{Reply{Kind: Bye, N: n}, 71, eight},
	} {
		c.r.Channel = 1
		want := frame.Frame{Channel: 1, Kind: c.kind, Body: c.body}
		if f, code := c.r.Frame(); f != want || code != api.OK {
			t.Errorf("%#v: %#v, %d, wanted %#v", c.r, f, code, want)
		}
		if r, code := Of(want); !alike(r, c.r) || code != api.OK {
			t.Errorf("%#v: %#v, %d, wanted %#v", want, r, code, c.r)
		}
	}
}

// P12.1: another kind, whatever else there is; the kinds 7 and 8.
func TestOtherKind(t *testing.T) {
	checked(t, Reply{Kind: 7}, api.OK)
	for kind := 8; kind < 256; kind++ {
		checked(t, Reply{Kind: uint8(kind)}, api.ErrKind)
		for _, like := range []uint8{Welcome, Sent, Lost} {
			r := some(like, 1)
			r.Kind = uint8(kind)
			checked(t, r, api.ErrKind)
		}
		bad := api.Mail{ID: 1, Shop: "A", Key: "*", Head: keyed(9), Body: long(257), Due: 1, Hops: 5}
		checked(t, Reply{Kind: uint8(kind), N: 1, M: 1, Yes: true, Name: "A", Mail: bad}, api.ErrKind)
	}
}

// P12.2: a frame of another kind, whatever it holds; the kinds 63, 64, 71 and 72.
func TestOtherFrameKind(t *testing.T) {
	for kind := range 256 {
		if kind >= 64 && kind <= 71 {
			f := plain(some(uint8(kind-64), 1))
			if r, code := Of(f); !alike(r, some(uint8(kind-64), 1)) || code != api.OK {
				t.Errorf("frame of kind %d: %#v, %d", kind, r, code)
			}
			continue
		}
		refuses(t, frame.Frame{Channel: 1, Kind: uint8(kind)}, api.ErrKind)
		refuses(t, frame.Frame{Kind: uint8(kind), Body: "\xff\xff"}, api.ErrKind)
		for like := range uint8(8) {
			refuses(t, frame.Frame{Channel: 1, Kind: uint8(kind), Body: plain(some(like, 1)).Body}, api.ErrKind)
		}
	}
}

// P12.1: what a kind doesn't tell isn't zero, ID, Due and Hops of each: that is told ahead of what is wrong of what it
// tells.
func TestCheckUntold(t *testing.T) {
	for kind := range uint8(8) {
		for _, one := range untold(kind) {
			var values []any
			for _, value := range mayBe(one) {
				v := reflect.ValueOf(value)
				if !v.IsZero() && (v.Kind() != reflect.Slice || v.Len() > 0) {
					values = append(values, value)
				}
			}
			for _, w := range mayNot(one) {
				if w.value != any("") {
					values = append(values, w.value)
				}
			}
			for _, value := range values {
				checked(t, with(some(kind, 1), one, value), api.ErrForm)
				checked(t, with(Reply{Kind: kind}, one, value), api.ErrForm)
			}
			for _, of := range told(kind) {
				for _, w := range mayNot(of) {
					checked(t, with(with(some(kind, 1), of, w.value), one, values[0]), api.ErrForm)
				}
			}
		}
		if slices.Contains(untold(kind), "Head") {
			checked(t, with(some(kind, 1), "Head", []api.Pair{}), api.OK)
		}
	}
}

// P12.1: each error of each thing that each kind tells.
func TestCheckTold(t *testing.T) {
	for kind := range uint8(8) {
		for _, one := range told(kind) {
			for _, w := range mayNot(one) {
				for _, which := range []int{0, 1, last} {
					checked(t, with(some(kind, which), one, w.value), w.want)
				}
			}
		}
	}
}

// P12.1: of two things that are wrong the error of the one whose bytes come first is told.
func TestCheckFirst(t *testing.T) {
	for kind := range uint8(8) {
		l := told(kind)
		for at, one := range l {
			for _, next := range l[at+1:] {
				for _, w := range mayNot(one) {
					for _, behind := range mayNot(next) {
						checked(t, with(with(some(kind, 1), next, behind.value), one, w.value), w.want)
					}
				}
			}
		}
	}
}

// P12.2, P12.3: what was written is read as it was, of all channels and kinds.
func TestReadWritten(t *testing.T) {
	for _, r := range replies() {
		f, _ := r.Frame()
		if got, code := Of(f); !alike(got, r) || code != api.OK || !Same(got, r) {
			t.Errorf("%#v: %#v, %d", r, got, code)
		}
	}
	for channel := range 256 {
		f := frame.Frame{Channel: uint8(channel), Kind: 65}
		if r, code := Of(f); code != api.OK || !alike(r, Reply{Channel: uint8(channel), Kind: Done}) {
			t.Errorf("channel %d: %#v, %d", channel, r, code)
		}
	}
}

// P12.3: the frames of two replies are the same only if these are.
func TestUnlikeFrames(t *testing.T) {
	seen := map[frame.Frame]Reply{}
	for _, r := range replies() {
		f, _ := r.Frame()
		if other, ok := seen[f]; ok && !alike(r, other) {
			t.Errorf("%#v and %#v are both %#v", r, other, f)
		}
		seen[f] = r
	}
}

// P12.2: bytes that end at each place, and bytes that are left.
func TestOfLength(t *testing.T) {
	for kind := range uint8(8) {
		for _, which := range []int{0, 1, last} {
			f := plain(some(kind, which))
			body := f.Body
			for length := range len(body) {
				f.Body = body[:length]
				refuses(t, f, api.ErrShort)
			}
			for _, left := range []string{"\x00", "\x01", "\xff", "\x00\x00", body + "\x00", long(2049), long(70000)} {
				f.Body = body + left
				refuses(t, f, api.ErrForm)
			}
		}
	}
}

// bad is bytes that are no such thing, wherever they stand, and whatever stands behind.
type bad struct {
	bytes string
	want  api.Errno
}

// badBytes: such bytes of something that is told.
func badBytes(one string) []bad {
	var l []bad
	longer := func(most int, ahead string) {
		for _, length := range []int{most + 1, most + 2, 512, 65535} {
			s := plainText(strings.Repeat("a", length))
			l = append(l, bad{ahead + s[:2], api.ErrLong}, bad{ahead + s[:3], api.ErrLong}, bad{ahead + s, api.ErrLong})
		}
	}
	switch one {
	case "Name", "Shop":
		longer(16, "")
	case "Key":
		longer(64, "")
	case "Body":
		longer(256, "")
	case "Yes":
		for b := 2; b < 256; b++ {
			l = append(l, bad{string([]byte{byte(b)}), api.ErrForm})
		}
	case "Head":
		l = append(l, bad{"\x09", api.ErrMany}, bad{"\xff", api.ErrMany}, bad{plainHead(keyed(9)), api.ErrMany},
			bad{plainHead([]api.Pair{pair("a", 3, 0, "")}), api.ErrKind}, bad{plainHead([]api.Pair{pair("", 255, 0, "")}), api.ErrKind},
			bad{plainHead([]api.Pair{pair("", 0, 0, "")}), api.ErrEmpty}, bad{plainHead([]api.Pair{pair("A", 1, 0, "x")}), api.ErrForm},
			bad{plainHead([]api.Pair{pair("a", 2, 2, "")}), api.ErrRange}, bad{plainHead([]api.Pair{pair("a", 0, 0, ""), pair("a", 2, 1, "")}), api.ErrThere},
			bad{"\x02" + plainHead([]api.Pair{pair("A", 0, 0, "")})[1:], api.ErrForm})
		longer(16, "\x01")
		longer(64, "\x01\x00\x01a\x01")
	}
	return l
}

// halves: the bytes of a reply ahead of something that it tells, and behind that.
func halves(r Reply, at int) (string, string) {
	var ahead, behind string
	for n, one := range told(r.Kind) {
		switch {
		case n < at:
			ahead += plainPart(r, one)
		case n > at:
			behind += plainPart(r, one)
		}
	}
	return ahead, behind
}

// spoiled: a reply of a kind of which Check says something, but of which all can be read.
func spoiled(kind uint8) Reply {
	r := some(kind, 1)
	for _, one := range told(kind) {
		switch one {
		case "Name", "Shop", "Key":
			r = with(r, one, "*")
		}
	}
	return r
}

// P12.2: bytes that are no such thing are told where they are met: ahead of what ends behind them, of bytes that are
// left, of what is wrong behind them, and of what Check says of what stands ahead.
func TestOfBytes(t *testing.T) {
	for kind := range uint8(8) {
		for at, one := range told(kind) {
			for _, r := range []Reply{some(kind, 0), some(kind, 1), some(kind, last), spoiled(kind)} {
				ahead, behind := halves(r, at)
				for _, b := range badBytes(one) {
					f := frame.Frame{Channel: 2, Kind: kind + 64}
					for _, end := range []string{"", behind, behind + "\x00", "\xff", strings.Repeat("\xff", 80)} {
						f.Body = ahead + b.bytes + end
						refuses(t, f, b.want)
					}
				}
			}
		}
	}
}

// P12.2: of two such things the first one is told.
func TestOfFirst(t *testing.T) {
	l := told(Sent)
	for at, one := range l {
		for next := at + 1; next < len(l); next++ {
			between := ""
			for _, other := range l[at+1 : next] {
				between += plainPart(some(Sent, 1), other)
			}
			ahead, _ := halves(some(Sent, 1), at)
			_, behind := halves(some(Sent, 1), next)
			for _, first := range badBytes(one) {
				for _, second := range badBytes(l[next]) {
					refuses(t, frame.Frame{Kind: 64 + Sent, Body: ahead + first.bytes + between + second.bytes + behind}, first.want)
				}
			}
		}
	}
}

// P12.2: behind all bytes what Check says, in its order; behind that they end, or are left.
func TestOfChecked(t *testing.T) {
	for kind := range uint8(8) {
		for _, one := range told(kind) {
			for _, w := range mayNot(one) {
				s, ok := w.value.(string)
				if !ok || w.want == api.ErrLong {
					continue
				}
				for _, which := range []int{0, 1, last} {
					f := plain(with(some(kind, which), one, s))
					refuses(t, f, w.want)
					body := f.Body
					f.Body = body + "\x00"
					refuses(t, f, api.ErrForm)
					f.Body = body[:len(body)-1]
					refuses(t, f, api.ErrShort)
				}
			}
		}
	}
	refuses(t, plain(Reply{Kind: Sent, Mail: api.Mail{Shop: "", Key: "*"}}), api.ErrEmpty)
	refuses(t, plain(Reply{Kind: Sent, Mail: api.Mail{Shop: "a", Key: "*"}}), api.ErrForm)
}

// plainCheck: what Check says of a reply that was read.
func plainCheck(r Reply) api.Errno {
	switch r.Kind {
	case 0:
		return words.Name(r.Name)
	case 3:
		if code := words.Name(r.Mail.Shop); code != api.OK {
			return code
		}
		return words.Key(r.Mail.Key)
	}
	return api.OK
}

// plainOf: the reply of a frame, as the document's words have it.
func plainOf(f frame.Frame) (Reply, api.Errno) {
	if f.Kind < 64 || f.Kind > 71 {
		return Reply{}, api.ErrKind
	}
	rest, code := f.Body, api.OK
	take := func(n int) string {
		if code == api.OK && n > len(rest) {
			code = api.ErrShort
		}
		if code != api.OK {
			return strings.Repeat("\x00", n)
		}
		s := rest[:n]
		rest = rest[n:]
		return s
	}
	most := map[string]int{"Name": 16, "Shop": 16, "Key": 64, "Body": 256}
	r := Reply{Channel: f.Channel, Kind: f.Kind - 64}
	for _, one := range told(r.Kind) {
		switch one {
		case "N", "M":
			r = with(r, one, binary.BigEndian.Uint64([]byte(take(8))))
		case "Yes":
			b := take(1)[0]
			if code == api.OK && b > 1 {
				code = api.ErrForm
			}
			r.Yes = b == 1
		case "Head":
			i := octet.New(rest)
			r.Mail.Head = head.Read(i)
			if code == api.OK {
				code = i.Err()
			}
			rest = rest[len(rest)-i.Left():]
		default:
			length := int(binary.BigEndian.Uint16([]byte(take(2))))
			if code == api.OK && length > most[one] {
				code = api.ErrLong
			}
			r = with(r, one, take(length))
		}
	}
	if code == api.OK && rest != "" {
		code = api.ErrForm
	}
	if code == api.OK {
		code = plainCheck(r)
	}
	if code != api.OK {
		return Reply{}, code
	}
	return r, api.OK
}

// P12.2, P12.3: each byte of replies turned to each other one: what is read of it may be, and would be written so.
func TestOfAnyBytes(t *testing.T) {
	for kind := range uint8(8) {
		for which := range 3 {
			r := some(kind, which)
			if kind == Sent && which > 0 {
				r.Mail.Head = []api.Pair{pair("a", 2, 1, ""), pair("ab", 0, -2, ""), pair("b", 1, 0, "\x00\x01a\x02\x01")}
			}
			f := plain(r)
			for at := range len(f.Body) {
				for b := range 256 {
					turned := f
					turned.Body = f.Body[:at] + string([]byte{byte(b)}) + f.Body[at+1:]
					reads(t, turned)
				}
			}
			for kind := range 256 {
				reads(t, frame.Frame{Channel: 7, Kind: uint8(kind), Body: f.Body})
			}
		}
	}
}

// reads: of a frame the same is read as the document's words have it, and it would be written so.
func reads(t *testing.T, f frame.Frame) {
	t.Helper()
	want, code := plainOf(f)
	got, gotCode := Of(f)
	if !alike(got, want) || gotCode != code {
		t.Fatalf("%#v: %#v, %d, wanted %#v, %d", f, got, gotCode, want, code)
	}
	if code != api.OK {
		return
	}
	if again, code := got.Frame(); again != f || code != api.OK {
		t.Fatalf("%#v: again %#v, %d", f, again, code)
	}
}

// P12.1: two are the same, if all is the same, whether they may be or not.
func TestSame(t *testing.T) {
	unlike := []Reply{
		{}, {Channel: 1}, {Channel: 255}, {Kind: 1}, {Kind: 8}, {Kind: 255}, {Name: "a"}, {Name: "A"},
		{N: 1}, {N: 1 << 32}, {N: math.MaxUint64}, {M: 1}, {M: 1 << 32}, {M: math.MaxUint64}, {N: 1, M: 1}, {Yes: true}, {Yes: true, N: 1},
	}
	for _, m := range []api.Mail{
		{ID: 1}, {ID: 1 << 32}, {Shop: "a"}, {Shop: "A"}, {Key: "a"}, {Key: "*"}, {Head: keyed(1)}, {Head: keyed(2)}, {Head: []api.Pair{{}}},
		{Head: []api.Pair{pair("a", 0, 0, ""), pair("b", 0, 0, "")}}, {Head: []api.Pair{pair("b", 0, 0, ""), pair("a", 0, 0, "")}},
		{Body: "a"}, {Body: "\x00"}, {Body: long(257)}, {Due: 1}, {Due: 1 << 32}, {Hops: 1}, {Hops: 255},
	} {
		unlike = append(unlike, Reply{Mail: m})
	}
	full := Reply{1, 2, 3, 4, true, "a", api.Mail{ID: 5, Shop: "b", Key: "c", Head: keyed(3), Body: "d", Due: 6, Hops: 7}}
	unlike = append(unlike, full)
	for _, one := range all {
		unlike = append(unlike, with(full, one, reflect.Zero(field(&full, one).Type()).Interface()))
	}
	for a := range unlike {
		for b := range unlike {
			other := unlike[b]
			other.Mail.Head = slices.Clone(other.Mail.Head)
			if got := Same(unlike[a], other); got != (a == b) {
				t.Errorf("%#v and %#v: %v", unlike[a], unlike[b], got)
			}
		}
	}
	none := Reply{Mail: api.Mail{Head: []api.Pair{}}}
	if !Same(Reply{}, none) || !Same(none, Reply{}) {
		t.Error("replies without a head")
	}
}

// P12.2: the bytes of all replies' frames, one behind the other; they are read as they were.
func TestBytes(t *testing.T) {
	if s, none := Bytes(nil), Bytes([]Reply{}); s != "" || none != "" {
		t.Errorf("of none: %x, %x", s, none)
	}
	if s := Bytes([]Reply{{Channel: 1, Kind: Done}}); s != "\x01\x41\x00\x00\xe8\xa0\x5f\x8e\xce" {
		t.Errorf("of Done: %x", s)
	}
	l := replies()
	want := ""
	for _, r := range l {
		s, code := frame.Bytes(plain(r))
		if code != api.OK {
			t.Fatal(code)
		}
		if got := Bytes([]Reply{r}); got != s {
			t.Errorf("%#v: %x, wanted %x", r, got, s)
		}
		want += s
	}
	got := Bytes(l)
	if got != want {
		t.Errorf("of all: %d bytes, wanted %d", len(got), len(want))
	}
	f, frames := feed.Feed{}.Take(got)
	if f.Err() != api.OK || f.Rest() != "" || len(frames) != len(l) {
		t.Fatalf("%d frames, %d, %x left, wanted %d", len(frames), f.Err(), f.Rest(), len(l))
	}
	for at, one := range frames {
		if r, code := Of(one); !Same(r, l[at]) || code != api.OK {
			t.Errorf("%#v: %#v, %d", l[at], r, code)
		}
	}
}

// P12.2: of those that may not be there are no bytes, wherever they stand: of each error, and each kind.
func TestBytesBetween(t *testing.T) {
	l := []Reply{{Channel: 1, Kind: Done}, some(Sent, last), {Channel: 3, Kind: Bye, N: 13}}
	var spoilt []Reply
	for kind := range uint8(8) {
		for _, one := range untold(kind) {
			values := mayBe(one)
			spoilt = append(spoilt, with(some(kind, 1), one, values[len(values)-1]))
		}
		for _, one := range told(kind) {
			for _, w := range mayNot(one) {
				spoilt = append(spoilt, with(some(kind, 1), one, w.value))
			}
		}
	}
	spoilt = append(spoilt, Reply{Kind: 8}, Reply{Kind: 64}, Reply{Kind: 65}, Reply{Kind: 192}, Reply{Kind: 255})
	want := Bytes(l)
	all := slices.Clone(spoilt)
	for _, r := range l {
		all = append(append(all, r), spoilt...)
	}
	if got := Bytes(all); got != want {
		t.Errorf("%x, wanted %x", got, want)
	}
	for at := range len(l) + 1 {
		for _, r := range spoilt {
			if got := Bytes(slices.Insert(slices.Clone(l), at, r)); got != want {
				t.Errorf("with %#v at %d: %x, wanted %x", r, at, got, want)
			}
		}
	}
	if got := Bytes(spoilt); got != "" {
		t.Errorf("of these alone: %x", got)
	}
}

// Memory: what is handed in isn't changed, spare room included; an answer is new.
func TestMemory(t *testing.T) {
	spare := append(make([]api.Pair, 0, 9), keyed(8)...)
	spare = append(spare, pair("spare", 0, 0, ""))
	was := slices.Clone(spare)
	r := Reply{Kind: Sent, Mail: api.Mail{Shop: "a", Head: spare[:4]}}
	l := append(make([]Reply, 0, 3), r, Reply{Kind: 9}, Reply{Kind: Done})
	r.Check()
	f, _ := r.Frame()
	Same(r, Reply{Mail: api.Mail{Head: spare}})
	Bytes(l[:2])
	if !slices.Equal(spare, was) || !alike(l[0], r) || l[1].Kind != 9 || l[2].Kind != Done {
		t.Errorf("%#v, %#v", spare, l)
	}
	one, _ := Of(f)
	one.Mail.Head[0] = pair("other", 2, 1, "")
	if two, _ := Of(f); !slices.Equal(two.Mail.Head, was[:4]) {
		t.Errorf("%#v, wanted %#v", two.Mail.Head, was[:4])
	}
}
