package method

import (
	"encoding/binary"
	"math"
	"reflect"
	"slices"
	"strconv"
	"strings"
	"testing"

	"stairwell/api"
	"stairwell/frame"
	"stairwell/head"
	"stairwell/match"
	"stairwell/octet"
	"stairwell/words"
)

// table: of each kind what it tells, in the order of its bytes, as the document's table has it.
var table = []string{
	"N",
	"",
	"",
	"Name N Other",
	"Name",
	"Name N M Other",
	"Name",
	"Name Other Key Head Yes",
	"Name Other Key Head Yes",
	"Name Other Key Head Yes",
	"Name Other Key Head Yes",
	"Name Key Head M Body",
	"N",
	"Name N",
	"N",
	"Name",
	"N M Yes",
	"",
	"",
	"",
	"",
}

// all: what there is to tell.
var all = strings.Fields("Name Other Key Head Body N M Yes")

const (
	name16 = "sixteen-bytes-it"
	name17 = "seventeen-bytes-a"
)

// told: what a kind tells.
func told(kind uint8) []string { return strings.Fields(table[kind]) }

// untold: what it doesn't.
func untold(kind uint8) []string {
	return slices.DeleteFunc(slices.Clone(all), func(one string) bool { return slices.Contains(told(kind), one) })
}

// with: the method, something of it being that.
func with(m Method, one string, value any) Method {
	reflect.ValueOf(&m).Elem().FieldByName(one).Set(reflect.ValueOf(value))
	return m
}

// pair: a pair, whether it may be or not.
func pair(key string, kind uint8, num int64, text string) api.Pair {
	return api.Pair{Key: key, Kind: kind, Num: num, Text: text}
}

// keyed: so many pairs of unlike keys.
func keyed(n int) []api.Pair {
	var l []api.Pair
	for at := range n {
		l = append(l, pair("k"+strconv.Itoa(at), 0, int64(at)-3, ""))
	}
	return l
}

// long: a text of so many bytes, any bytes.
func long(n int) string {
	b := make([]byte, n)
	for at := range b {
		b[at] = byte(at*at*5 + at*37 + 254)
	}
	return string(b)
}

// wordy: a key of so many bytes, of several words.
func wordy(n int) string { return strings.Repeat("ab.", n)[:n-1] + "z" }

// fullest: a head of as many bytes as one may have.
func fullest() []api.Pair {
	h := keyed(8)
	for at := range h {
		h[at] = pair(name16[:15]+strconv.Itoa(at), 1, 0, long(64))
	}
	return h
}

// pattern: is a kind's Key one?
func pattern(kind uint8) bool { return kind >= 7 && kind <= 10 }

// mayBe: of what a kind tells values that may be, its edges among them; the first one is the least.
func mayBe(kind uint8, one string) []any {
	var l []any
	switch one {
	case "Name", "Other":
		if one == "Other" && (kind == 3 || kind == 5) {
			l = append(l, "")
		}
		return append(l, "a", "b", "-", "_", "0", "a-b_0", name16)
	case "Key":
		l = append(l, "", "a", "a.b", "a.b.c", "-._.0", wordy(63), wordy(64), strings.Repeat("k", 64))
		if pattern(kind) {
			l = append(l, "*", "#", "a.*.#", "#.#", wordy(62)+".*", wordy(62)+".#", strings.Repeat("#.", 31)+"ab", strings.Repeat("*.", 31)+"#")
		}
	case "Head":
		l = append(l, []api.Pair(nil), []api.Pair{}, keyed(1), keyed(7), keyed(8), fullest(),
			[]api.Pair{pair("a", 0, math.MinInt64, ""), pair("b", 0, math.MaxInt64, "")},
			[]api.Pair{pair("b", 1, 0, ""), pair("a", 1, 0, "\x00\x01a"), pair("c", 2, 0, ""), pair("d", 2, 1, "")})
	case "Body":
		l = append(l, "", "x", "\x00", "\x00\x01x", "\xff\xc3\xa9", long(64), long(65), long(255), long(256))
	case "N", "M":
		for _, n := range []uint64{0, 1, 2, 3, 4, 255, 256, 257, 65536, 1 << 32, 1 << 63, 0x0102030405060708, math.MaxUint64 - 1, math.MaxUint64} {
			l = append(l, n)
		}
	case "Yes":
		l = append(l, false, true)
	}
	return l
}

// wrong is a value that may not be, and what is said of it.
type wrong struct {
	value any
	want  api.Errno
}

// mayNot: of what a kind tells values that may not be.
func mayNot(kind uint8, one string) []wrong {
	var l []wrong
	switch one {
	case "Name", "Other":
		if one == "Name" || kind != 3 && kind != 5 {
			l = append(l, wrong{"", api.ErrEmpty})
		}
		l = append(l, wrong{name17, api.ErrLong}, wrong{strings.Repeat("A", 17), api.ErrLong}, wrong{long(256), api.ErrLong}, wrong{long(65536), api.ErrLong})
		for _, s := range []string{"A", "a.b", "*", "#", " ", "a ", "\x00", "é", name16[:15] + "/"} {
			l = append(l, wrong{s, api.ErrForm})
		}
	case "Key":
		l = append(l, wrong{wordy(65), api.ErrLong}, wrong{strings.Repeat("A", 65), api.ErrLong}, wrong{strings.Repeat("*.", 32) + "*", api.ErrLong}, wrong{long(65536), api.ErrLong})
		for _, s := range []string{"A", ".", "a.", ".a", "a..b", "a b", "**", "a*", "#a", "\x00", wordy(63) + "."} {
			l = append(l, wrong{s, api.ErrForm})
		}
		if !pattern(kind) {
			l = append(l, wrong{"*", api.ErrForm}, wrong{"#", api.ErrForm}, wrong{"a.*.#", api.ErrForm})
		}
	case "Head":
		l = append(l, wrong{keyed(9), api.ErrMany}, wrong{make([]api.Pair, 256), api.ErrMany},
			wrong{[]api.Pair{{}}, api.ErrEmpty}, wrong{[]api.Pair{pair(name17, 0, 0, "")}, api.ErrLong},
			wrong{[]api.Pair{pair("A", 0, 0, "")}, api.ErrForm}, wrong{[]api.Pair{pair("a", 3, 0, "")}, api.ErrKind},
			wrong{[]api.Pair{pair("a", 1, 0, long(65))}, api.ErrLong}, wrong{[]api.Pair{pair("a", 2, 2, "")}, api.ErrRange},
			wrong{[]api.Pair{pair("a", 0, 0, "x")}, api.ErrForm}, wrong{[]api.Pair{pair("a", 1, 1, "x")}, api.ErrForm},
			wrong{[]api.Pair{pair("a", 0, 0, ""), pair("b", 0, 0, ""), pair("a", 2, 1, "")}, api.ErrThere})
	case "Body":
		l = append(l, wrong{long(257), api.ErrLong}, wrong{long(512), api.ErrLong}, wrong{long(65535), api.ErrLong}, wrong{long(65536), api.ErrLong})
	}
	return l
}

// some: a method of a kind, of each thing that it tells a value that may be: the least, the last, or one between.
func some(kind uint8, which int) Method {
	m := Method{Channel: uint8(which*85 + 1), Kind: kind}
	for _, one := range told(kind) {
		l := mayBe(kind, one)
		m = with(m, one, l[min(which, len(l)-1)])
	}
	return m
}

// last is the number of the values that are the last ones.
const last = 99

// methods: methods that may be, of all kinds, at all edges.
func methods() []Method {
	var l []Method
	for kind := range uint8(21) {
		for _, which := range []int{0, 1, 2, last} {
			l = append(l, some(kind, which))
			for _, one := range told(kind) {
				for _, value := range mayBe(kind, one) {
					l = append(l, with(some(kind, which), one, value))
				}
			}
		}
		for _, channel := range []uint8{0, 1, 4, 5, 64, 254, 255} {
			m := some(kind, 1)
			m.Channel = channel
			l = append(l, m)
		}
	}
	return l
}

// plainText: a text's bytes, as the document's words have them.
func plainText(s string) string {
	return string(binary.BigEndian.AppendUint16(nil, uint16(len(s)))) + s
}

// plainHead: a head's bytes, whether it may be or not.
func plainHead(h []api.Pair) string {
	s := string([]byte{byte(len(h))})
	for _, p := range h {
		s += plainText(p.Key) + string([]byte{p.Kind})
		switch p.Kind {
		case 0:
			s += string(binary.BigEndian.AppendUint64(nil, uint64(p.Num)))
		case 1:
			s += plainText(p.Text)
		case 2:
			s += string([]byte{byte(p.Num)})
		}
	}
	return s
}

// plainPart: the bytes of something that a method tells.
func plainPart(m Method, one string) string {
	switch value := reflect.ValueOf(m).FieldByName(one).Interface().(type) {
	case string:
		return plainText(value)
	case []api.Pair:
		return plainHead(value)
	case uint64:
		return string(binary.BigEndian.AppendUint64(nil, value))
	case bool:
		if value {
			return "\x01"
		}
	}
	return "\x00"
}

// plain: a method's frame, whether it may be or not.
func plain(m Method) frame.Frame {
	f := frame.Frame{Channel: m.Channel, Kind: m.Kind}
	for _, one := range told(m.Kind) {
		f.Body += plainPart(m, one)
	}
	return f
}

// alike: are two the same in all, a head without pairs being nil or empty?
func alike(a, b Method) bool {
	if len(a.Head) == 0 && len(b.Head) == 0 {
		a.Head, b.Head = nil, nil
	}
	return reflect.DeepEqual(a, b)
}

// checked: what Check says, and Frame, too.
func checked(t *testing.T, m Method, want api.Errno) {
	t.Helper()
	if got := m.Check(); got != want {
		t.Errorf("%#v: %d, wanted %d", m, got, want)
	}
	f, code := m.Frame()
	if code != want || code != api.OK && f != (frame.Frame{}) {
		t.Errorf("%#v: frame %#v, %d, wanted %d", m, f, code, want)
	}
}

// refuses: a frame of which no method is read, with that error.
func refuses(t *testing.T, f frame.Frame, want api.Errno) {
	t.Helper()
	if m, code := Of(f); code != want || !reflect.DeepEqual(m, Method{}) {
		t.Errorf("%#v: %#v, %d, wanted %d", f, m, code, want)
	}
}

// P11.1: the kinds.
func TestKinds(t *testing.T) {
	got := []int{
		Hello, Open, Close, MakeShop, DropShop, MakeQueue, DropQueue, Bind, Unbind, Lift, Unlift, Put, Credit, Take, Leave,
		Get, Settle, Sure, Draft, Commit, Undo,
	}
	for kind, number := range got {
		if number != kind {
			t.Errorf("kind %d is %d", kind, number)
		}
	}
}

// P11.1: methods that may be, of all kinds; their frames.
func TestCheckRight(t *testing.T) {
	for _, m := range methods() {
		checked(t, m, api.OK)
		if f, _ := m.Frame(); f != plain(m) {
			t.Errorf("%#v: %#v, wanted %#v", m, f, plain(m))
		}
	}
}

// P11.1, P11.2: frames that are known, of each kind.
func TestFrameKnown(t *testing.T) {
	h := []api.Pair{pair("p", 2, 1, "")}
	const eight = "\x01\x02\x03\x04\x05\x06\x07\x08"
	const n, headOf = 0x0102030405060708, "\x01\x00\x01p\x02\x01"
	for _, c := range []struct {
		m    Method
		body string
	}{
		{Method{Kind: Hello, N: 1}, "\x00\x00\x00\x00\x00\x00\x00\x01"},
		{Method{Kind: Hello, N: n}, eight},
		{Method{Kind: Open}, ""},
		{Method{Kind: Close}, ""},
		{Method{Kind: MakeShop, Name: "ab", N: n, Other: "c"}, "\x00\x02ab" + eight + "\x00\x01c"},
		{Method{Kind: MakeShop, Name: "ab", N: 3}, "\x00\x02ab\x00\x00\x00\x00\x00\x00\x00\x03\x00\x00"},
		{Method{Kind: DropShop, Name: "ab"}, "\x00\x02ab"},
		{Method{Kind: MakeQueue, Name: "ab", N: n, M: 2, Other: "c"}, "\x00\x02ab" + eight + "\x00\x00\x00\x00\x00\x00\x00\x02\x00\x01c"},
		{Method{Kind: MakeQueue, Name: "a"}, "\x00\x01a" + strings.Repeat("\x00", 18)},
		{Method{Kind: DropQueue, Name: "ab"}, "\x00\x02ab"},
		{Method{Kind: Bind, Name: "ab", Other: "c", Key: "*.#", Head: h, Yes: true}, "\x00\x02ab\x00\x01c\x00\x03*.#" + headOf + "\x01"},
		{Method{Kind: Unbind, Name: "a", Other: "c"}, "\x00\x01a\x00\x01c\x00\x00\x00\x00"},
		{Method{Kind: Lift, Name: "a", Other: "c", Key: "k"}, "\x00\x01a\x00\x01c\x00\x01k\x00\x00"},
		{Method{Kind: Unlift, Name: "a", Other: "c", Yes: true}, "\x00\x01a\x00\x01c\x00\x00\x00\x01"},
		{Method{Kind: Put, Name: "a", Key: "k.l", Head: h, M: n, Body: "xyz"}, "\x00\x01a\x00\x03k.l" + headOf + eight + "\x00\x03xyz"},
		{Method{Kind: Put, Name: "a"}, "\x00\x01a\x00\x00\x00" + strings.Repeat("\x00", 10)},
		{Method{Kind: Credit, N: n}, eight},
		{Method{Kind: Take, Name: "ab", N: n}, "\x00\x02ab" + eight},
		{Method{Kind: Leave, N: n}, eight},
		{Method{Kind: Get, Name: "ab"}, "\x00\x02ab"},
		{Method{Kind: Settle, N: n, M: math.MaxUint64, Yes: true}, eight + "\xff\xff\xff\xff\xff\xff\xff\xff\x01"},
		{Method{Kind: Settle, N: 1}, "\x00\x00\x00\x00\x00\x00\x00\x01" + strings.Repeat("\x00", 9)},
		{Method{Kind: Sure}, ""},
		{Method{Kind: Draft}, ""},
		{Method{Kind: Commit}, ""},
		{Method{Kind: Undo}, ""},
	} {
		c.m.Channel = 1
		want := frame.Frame{Channel: 1, Kind: c.m.Kind, Body: c.body}
		if f, code := c.m.Frame(); f != want || code != api.OK {
			t.Errorf("%#v: %#v, %d, wanted %#v", c.m, f, code, want)
		}
		if m, code := Of(want); !alike(m, c.m) || code != api.OK {
			t.Errorf("%#v: %#v, %d, wanted %#v", want, m, code, c.m)
		}
	}
}

// P11.1, P11.2: another kind, whatever else there is; the kinds 20 and 21.
func TestOtherKind(t *testing.T) {
	checked(t, Method{Kind: 20}, api.OK)
	for kind := 21; kind < 256; kind++ {
		checked(t, Method{Kind: uint8(kind)}, api.ErrKind)
		for _, like := range []uint8{Hello, MakeShop, Bind, Put, Settle} {
			m := some(like, 1)
			m.Kind = uint8(kind)
			checked(t, m, api.ErrKind)
			refuses(t, frame.Frame{Channel: 1, Kind: uint8(kind), Body: plain(some(like, 1)).Body}, api.ErrKind)
		}
		checked(t, Method{Kind: uint8(kind), Name: "A", Other: name17, Key: "A", Head: keyed(9), Body: long(257), N: 1, M: 1, Yes: true}, api.ErrKind)
		refuses(t, frame.Frame{Kind: uint8(kind)}, api.ErrKind)
		refuses(t, frame.Frame{Kind: uint8(kind), Body: "\xff\xff"}, api.ErrKind)
	}
}

// P11.1: what a kind doesn't tell isn't zero: that is told ahead of what is wrong of what it tells.
func TestCheckUntold(t *testing.T) {
	for kind := range uint8(21) {
		for _, one := range untold(kind) {
			var values []any
			for _, value := range mayBe(kind, one) {
				v := reflect.ValueOf(value)
				if !v.IsZero() && (v.Kind() != reflect.Slice || v.Len() > 0) {
					values = append(values, value)
				}
			}
			for _, w := range mayNot(kind, one) {
				if w.value != any("") {
					values = append(values, w.value)
				}
			}
			for _, value := range values {
				checked(t, with(some(kind, 1), one, value), api.ErrForm)
				checked(t, with(Method{Kind: kind}, one, value), api.ErrForm)
			}
			for _, of := range told(kind) {
				for _, w := range mayNot(kind, of) {
					checked(t, with(with(some(kind, 1), of, w.value), one, values[0]), api.ErrForm)
				}
			}
		}
		if slices.Contains(untold(kind), "Head") {
			checked(t, with(some(kind, 1), "Head", []api.Pair{}), api.OK)
		}
	}
}

// P11.1: each error of each thing that each kind tells.
func TestCheckTold(t *testing.T) {
	for kind := range uint8(21) {
		for _, one := range told(kind) {
			for _, w := range mayNot(kind, one) {
				for _, which := range []int{0, 1, last} {
					checked(t, with(some(kind, which), one, w.value), w.want)
				}
			}
		}
	}
}

// P11.1: of two things that are wrong the error of the one whose bytes come first is told.
func TestCheckFirst(t *testing.T) {
	for kind := range uint8(21) {
		l := told(kind)
		for at, one := range l {
			for _, next := range l[at+1:] {
				for _, w := range mayNot(kind, one) {
					for _, behind := range mayNot(kind, next) {
						checked(t, with(with(some(kind, 1), next, behind.value), one, w.value), w.want)
					}
				}
			}
		}
	}
}

// P11.1: an empty Other, of MakeShop and MakeQueue, and of others.
func TestCheckOtherEmpty(t *testing.T) {
	for kind := range uint8(21) {
		want := api.OK
		if pattern(kind) {
			want = api.ErrEmpty
		}
		checked(t, with(some(kind, 1), "Other", ""), want)
	}
}

// P11.2, P11.3: what was written is read as it was, of all channels and kinds, over a line, too.
func TestReadWritten(t *testing.T) {
	for _, m := range methods() {
		f, _ := m.Frame()
		got, code := Of(f)
		if !alike(got, m) || code != api.OK || !Same(got, m) {
			t.Errorf("%#v: %#v, %d", m, got, code)
		}
		s, code := frame.Bytes(f)
		if code != api.OK {
			t.Errorf("%#v: no frame, %d", m, code)
		}
		if again, length, code := frame.Parse(s); again != f || length != len(s) || code != api.OK {
			t.Errorf("%#v: %#v, %d", m, again, code)
		}
	}
	for channel := range 256 {
		if m, code := Of(frame.Frame{Channel: uint8(channel), Kind: Open}); code != api.OK || !alike(m, Method{Channel: uint8(channel), Kind: Open}) {
			t.Errorf("channel %d: %#v, %d", channel, m, code)
		}
	}
}

// P11.3: the frames of two methods are the same only if these are.
func TestUnlikeFrames(t *testing.T) {
	seen := map[frame.Frame]Method{}
	for _, m := range methods() {
		f, _ := m.Frame()
		if other, ok := seen[f]; ok && !alike(m, other) {
			t.Errorf("%#v and %#v are both %#v", m, other, f)
		}
		seen[f] = m
	}
}

// P11.2: bytes that end at each place, and bytes that are left.
func TestOfLength(t *testing.T) {
	for kind := range uint8(21) {
		for _, which := range []int{0, 1, last} {
			f := plain(some(kind, which))
			body := f.Body
			for length := range len(body) {
				f.Body = body[:length]
				refuses(t, f, api.ErrShort)
			}
			for _, left := range []string{"\x00", "\x01", "\xff", "\x00\x00", body + "\x00", long(2049), long(70000)} {
				f.Body = body + left
				refuses(t, f, api.ErrForm)
			}
		}
	}
}

// bad is bytes that are no such thing, wherever they stand, and whatever stands behind.
type bad struct {
	bytes string
	want  api.Errno
}

// badBytes: such bytes of something that is told.
func badBytes(one string) []bad {
	var l []bad
	longer := func(most int, ahead string) {
		for _, length := range []int{most + 1, most + 2, 512, 65535} {
			s := plainText(strings.Repeat("a", length))
			l = append(l, bad{ahead + s[:2], api.ErrLong}, bad{ahead + s[:3], api.ErrLong}, bad{ahead + s, api.ErrLong})
		}
	}
	switch one {
	case "Name", "Other":
		longer(16, "")
	case "Key":
		longer(64, "")
	case "Body":
		longer(256, "")
	case "Yes":
		for b := 2; b < 256; b++ {
			l = append(l, bad{string([]byte{byte(b)}), api.ErrForm})
		}
	case "Head":
		l = append(l, bad{"\x09", api.ErrMany}, bad{"\xff", api.ErrMany}, bad{plainHead(keyed(9)), api.ErrMany},
			bad{plainHead([]api.Pair{pair("a", 3, 0, "")}), api.ErrKind}, bad{plainHead([]api.Pair{pair("", 255, 0, "")}), api.ErrKind},
			bad{plainHead([]api.Pair{pair("", 0, 0, "")}), api.ErrEmpty}, bad{plainHead([]api.Pair{pair("A", 1, 0, "x")}), api.ErrForm},
			bad{plainHead([]api.Pair{pair("a", 2, 2, "")}), api.ErrRange}, bad{plainHead([]api.Pair{pair("a", 0, 0, ""), pair("a", 2, 1, "")}), api.ErrThere},
			bad{"\x02" + plainHead([]api.Pair{pair("A", 0, 0, "")})[1:], api.ErrForm})
		longer(16, "\x01")
		longer(64, "\x01\x00\x01a\x01")
	}
	return l
}

// halves: the bytes of a method ahead of something that it tells, and behind that.
func halves(m Method, at int) (string, string) {
	var ahead, behind string
	for n, one := range told(m.Kind) {
		switch {
		case n < at:
			ahead += plainPart(m, one)
		case n > at:
			behind += plainPart(m, one)
		}
	}
	return ahead, behind
}

// spoiled: a method of a kind of which Check says something, but of which all can be read.
func spoiled(kind uint8) Method {
	m := some(kind, 1)
	for _, one := range told(kind) {
		switch one {
		case "Name", "Key":
			m = with(m, one, "A")
		case "Other":
			m = with(m, one, "*")
		}
	}
	return m
}

// P11.2: bytes that are no such thing are told where they are met: ahead of what ends behind them, of bytes that are
// left, of what is wrong behind them, and of what Check says of what stands ahead.
func TestOfBytes(t *testing.T) {
	for kind := range uint8(21) {
		l := told(kind)
		for at, one := range l {
			for _, m := range []Method{some(kind, 0), some(kind, 1), some(kind, last), spoiled(kind)} {
				ahead, behind := halves(m, at)
				for _, b := range badBytes(one) {
					f := frame.Frame{Channel: 2, Kind: kind}
					for _, end := range []string{"", behind, behind + "\x00", "\xff", strings.Repeat("\xff", 80)} {
						f.Body = ahead + b.bytes + end
						refuses(t, f, b.want)
					}
				}
			}
		}
	}
}

// P11.2: of two such things the first one is told.
func TestOfFirst(t *testing.T) {
	for kind := range uint8(21) {
		l := told(kind)
		for at, one := range l {
			for next := at + 1; next < len(l); next++ {
				between := ""
				for _, other := range l[at+1 : next] {
					between += plainPart(some(kind, 1), other)
				}
				ahead, _ := halves(some(kind, 1), at)
				_, behind := halves(some(kind, 1), next)
				for _, first := range badBytes(one) {
					for _, second := range badBytes(l[next]) {
						refuses(t, frame.Frame{Kind: kind, Body: ahead + first.bytes + between + second.bytes + behind}, first.want)
					}
				}
			}
		}
	}
}

// P11.2: behind all bytes what Check says, in its order; behind that they end, or are left.
func TestOfChecked(t *testing.T) {
	for kind := range uint8(21) {
		for _, one := range told(kind) {
			for _, w := range mayNot(kind, one) {
				s, ok := w.value.(string)
				if !ok || w.want == api.ErrLong {
					continue
				}
				for _, which := range []int{0, 1, last} {
					f := plain(with(some(kind, which), one, s))
					refuses(t, f, w.want)
					body := f.Body
					f.Body = body + "\x00"
					refuses(t, f, api.ErrForm)
					f.Body = body[:len(body)-1]
					refuses(t, f, api.ErrShort)
				}
			}
		}
		m := spoiled(kind)
		if l := told(kind); len(l) > 1 && l[1] == "Other" {
			refuses(t, plain(with(m, "Name", "")), api.ErrEmpty)
			refuses(t, plain(with(m, "Other", "")), api.ErrForm)
			refuses(t, plain(with(with(m, "Name", "a"), "Other", "")), api.ErrEmpty)
		}
	}
	refuses(t, plain(Method{Kind: Put, Name: "", Key: "*"}), api.ErrEmpty)
	refuses(t, plain(Method{Kind: Put, Name: "a", Key: "*"}), api.ErrForm)
	refuses(t, plain(Method{Kind: MakeShop, Name: "", Other: "A"}), api.ErrEmpty)
	refuses(t, plain(Method{Kind: MakeQueue, Name: "a", Other: "A"}), api.ErrForm)
}

// plainCheck: what Check says of a method that was read.
func plainCheck(m Method) api.Errno {
	for _, one := range told(m.Kind) {
		code := api.OK
		switch {
		case one == "Name", one == "Other" && (m.Other != "" || pattern(m.Kind)):
			code = words.Name(reflect.ValueOf(m).FieldByName(one).String())
		case one == "Key" && pattern(m.Kind):
			code = words.Pattern(m.Key)
		case one == "Key":
			code = words.Key(m.Key)
		}
		if code != api.OK {
			return code
		}
	}
	return api.OK
}

// plainOf: the method of a frame, as the document's words have it.
func plainOf(f frame.Frame) (Method, api.Errno) {
	if f.Kind > 20 {
		return Method{}, api.ErrKind
	}
	rest, code := f.Body, api.OK
	take := func(n int) string {
		if code == api.OK && n > len(rest) {
			code = api.ErrShort
		}
		if code != api.OK {
			return strings.Repeat("\x00", n)
		}
		s := rest[:n]
		rest = rest[n:]
		return s
	}
	most := map[string]int{"Name": 16, "Other": 16, "Key": 64, "Body": 256}
	m := Method{Channel: f.Channel, Kind: f.Kind}
	for _, one := range told(f.Kind) {
		switch one {
		case "N", "M":
			m = with(m, one, binary.BigEndian.Uint64([]byte(take(8))))
		case "Yes":
			b := take(1)[0]
			if code == api.OK && b > 1 {
				code = api.ErrForm
			}
			m.Yes = b == 1
		case "Head":
			i := octet.New(rest)
			m.Head = head.Read(i)
			if code == api.OK {
				code = i.Err()
			}
			rest = rest[len(rest)-i.Left():]
		default:
			length := int(binary.BigEndian.Uint16([]byte(take(2))))
			if code == api.OK && length > most[one] {
				code = api.ErrLong
			}
			m = with(m, one, take(length))
		}
	}
	if code == api.OK && rest != "" {
		code = api.ErrForm
	}
	if code == api.OK {
		code = plainCheck(m)
	}
	if code != api.OK {
		return Method{}, code
	}
	return m, api.OK
}

// P11.2, P11.3: each byte of methods turned to each other one: what is read of it may be, and would be written so.
func TestOfAnyBytes(t *testing.T) {
	for kind := range uint8(21) {
		for which := range 3 {
			m := some(kind, which)
			if slices.Contains(told(kind), "Head") && which > 0 {
				m.Head = []api.Pair{pair("a", 2, 1, ""), pair("ab", 0, -2, ""), pair("b", 1, 0, "\x00\x01a\x02\x01")}
			}
			f := plain(m)
			for at := range len(f.Body) {
				for b := range 256 {
					turned := f
					turned.Body = f.Body[:at] + string([]byte{byte(b)}) + f.Body[at+1:]
					want, code := plainOf(turned)
					got, gotCode := Of(turned)
					if !alike(got, want) || gotCode != code {
						t.Fatalf("%#v: %#v, %d, wanted %#v, %d", turned, got, gotCode, want, code)
					}
					if code != api.OK {
						continue
					}
					if again, code := got.Frame(); again != turned || code != api.OK {
						t.Fatalf("%#v: again %#v, %d", turned, again, code)
					}
				}
			}
			for kind := range 256 {
				turned := frame.Frame{Channel: 7, Kind: uint8(kind), Body: f.Body}
				want, code := plainOf(turned)
				if got, gotCode := Of(turned); !alike(got, want) || gotCode != code {
					t.Fatalf("%#v: %#v, %d, wanted %#v, %d", turned, got, gotCode, want, code)
				}
			}
		}
	}
}

// P11.1: two are the same, if all is the same, whether they may be or not.
func TestSame(t *testing.T) {
	unlike := []Method{
		{}, {Channel: 1}, {Channel: 255}, {Kind: 1}, {Kind: 21}, {Kind: 255}, {Name: "a"}, {Name: "A"}, {Other: "a"}, {Key: "a"}, {Key: "*"},
		{Head: keyed(1)}, {Head: keyed(2)}, {Head: []api.Pair{{}}}, {Head: []api.Pair{pair("b", 0, 0, ""), pair("a", 0, 0, "")}},
		{Head: []api.Pair{pair("a", 0, 0, ""), pair("b", 0, 0, "")}}, {Body: "a"}, {Body: "\x00"}, {Body: long(257)},
		{N: 1}, {N: 1 << 32}, {N: math.MaxUint64}, {M: 1}, {M: 1 << 32}, {M: math.MaxUint64}, {N: 1, M: 1}, {Yes: true}, {Yes: true, N: 1},
	}
	full := Method{1, 2, "a", "b", "c", keyed(3), "d", 4, 5, true}
	unlike = append(unlike, full)
	for _, one := range all {
		unlike = append(unlike, with(full, one, reflect.Zero(reflect.ValueOf(full).FieldByName(one).Type()).Interface()))
	}
	for a := range unlike {
		for b := range unlike {
			other := unlike[b]
			other.Head = slices.Clone(other.Head)
			if got := Same(unlike[a], other); got != (a == b) {
				t.Errorf("%#v and %#v: %v", unlike[a], unlike[b], got)
			}
		}
	}
	if !Same(Method{}, Method{Head: []api.Pair{}}) || !Same(Method{Head: []api.Pair{}}, Method{}) {
		t.Error("methods without a head")
	}
}

// P11.1: the rule of each sort, with the Key, the Head as Want, and Yes as All, of methods that may be and others.
func TestRule(t *testing.T) {
	for sort := range 256 {
		for _, m := range []Method{
			{}, {Kind: Bind, Name: "a", Other: "b", Key: "a.*.#", Head: keyed(8), Yes: true}, {Kind: Unlift, Name: "a", Other: "b", Key: "k"},
			{Kind: 99, Key: "A B", Head: []api.Pair{{}, {}}, N: 7, M: 8, Body: "x"}, {Yes: true}, {Head: []api.Pair{}},
		} {
			want := match.Rule{Sort: uint8(sort), Key: m.Key, Want: m.Head, All: m.Yes}
			if got := m.Rule(uint8(sort)); !match.Same(got, want) {
				t.Errorf("%#v of sort %d: %#v", m, sort, got)
			}
		}
	}
	m := Method{Kind: Bind, Name: "a", Other: "b", Key: "a.#", Head: keyed(2)}
	if !m.Rule(match.Topic).Goes("a.b", nil) || m.Rule(match.Direct).Goes("a.b", nil) || !m.Rule(match.Fanout).Goes("b", nil) {
		t.Error("by key")
	}
	if !m.Rule(match.Heads).Goes("", keyed(1)) || with(m, "Yes", true).Rule(match.Heads).Goes("", keyed(1)) {
		t.Error("by head")
	}
}

// Memory: what is handed in isn't changed, spare room included; an answer is new.
func TestMemory(t *testing.T) {
	spare := append(make([]api.Pair, 0, 9), keyed(8)...)
	spare = append(spare, pair("spare", 0, 0, ""))
	was := slices.Clone(spare)
	m := Method{Kind: Bind, Name: "a", Other: "b", Head: spare[:4]}
	rule := m.Rule(match.Heads)
	f, _ := m.Frame()
	m.Check()
	Same(m, Method{Head: spare})
	rule.Want[0] = pair("other", 2, 1, "")
	_ = append(rule.Want, pair("more", 2, 1, ""))
	if !slices.Equal(spare, was) {
		t.Errorf("%#v, wanted %#v", spare, was)
	}
	rule = m.Rule(match.Heads)
	spare[0] = pair("other", 2, 1, "")
	if !slices.Equal(rule.Want, was[:4]) {
		t.Errorf("%#v, wanted %#v", rule.Want, was[:4])
	}
	one, _ := Of(f)
	one.Head[0] = pair("other", 2, 1, "")
	if two, _ := Of(f); !slices.Equal(two.Head, was[:4]) {
		t.Errorf("%#v, wanted %#v", two.Head, was[:4])
	}
}
