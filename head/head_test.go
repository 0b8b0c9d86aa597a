package head

import (
	"encoding/binary"
	"math"
	"slices"
	"strconv"
	"strings"
	"testing"

	"stairwell/api"
	"stairwell/octet"
)

// pair: a pair, whether it may be or not.
func pair(key string, kind uint8, num int64, text string) api.Pair {
	return api.Pair{Key: key, Kind: kind, Num: num, Text: text}
}

// plainPair: a pair's bytes as the document's words have them, whether it may be or not; of another kind it has nothing
// behind that.
func plainPair(p api.Pair) string {
	b := binary.BigEndian.AppendUint16(nil, uint16(len(p.Key)))
	b = append(b, p.Key...)
	b = append(b, p.Kind)
	switch p.Kind {
	case 0:
		b = binary.BigEndian.AppendUint64(b, uint64(p.Num))
	case 1:
		b = binary.BigEndian.AppendUint16(b, uint16(len(p.Text)))
		b = append(b, p.Text...)
	case 2:
		b = append(b, byte(p.Num))
	}
	return string(b)
}

// plain: a head's bytes, whether it may be or not.
func plain(h []api.Pair) string {
	b := string([]byte{byte(len(h))})
	for _, p := range h {
		b += plainPair(p)
	}
	return b
}

// numbers: so many pairs of unlike keys.
func numbers(n int) []api.Pair {
	var l []api.Pair
	for at := range n {
		l = append(l, api.Pair{Key: "k" + strconv.Itoa(at), Num: int64(at) - 3})
	}
	return l
}

const (
	name16 = "sixteen-bytes-it"
	name17 = "seventeen-bytes-a"
)

// long: a text of so many bytes, any bytes.
func long(n int) string {
	b := make([]byte, n)
	for at := range b {
		b[at] = byte(at*at*5 + at*37 + 254)
	}
	return string(b)
}

// heads: heads that may be, of all kinds and at all edges.
func heads() [][]api.Pair {
	l := [][]api.Pair{
		nil, {},
		{pair("a", 1, 0, ""), pair("b", 2, 1, ""), pair("c", 0, -7, ""), pair("d", 1, 0, "text"), pair("e", 2, 0, "")},
		{pair("c", 0, 5, ""), pair("b", 0, 5, ""), pair("a", 0, 5, "")},
		{pair("a", 1, 0, "a"), pair("b", 1, 0, "a")},
		{pair(name16, 0, 1, ""), pair(name16[1:], 1, 0, name16), pair("-", 2, 1, ""), pair("_", 2, 1, ""), pair("0", 0, 0, "")},
		{pair("a", 1, 0, "\x00\x01b\x00\x00"), pair("b", 1, 0, "\xff\xc3\xa9")},
		{pair("last", 2, 1, ""), pair("a", 1, 0, long(64))},
	}
	for n := 1; n <= 8; n++ {
		l = append(l, numbers(n))
	}
	for _, num := range []int64{
		0, 1, 2, 3, 255, 256, -1, -2, -256, 0x0102030405060708, -0x0102030405060708, 1 << 32, -1 << 32, math.MaxInt64, math.MinInt64,
	} {
		l = append(l, []api.Pair{pair("n", 0, num, "")})
	}
	for _, length := range []int{0, 1, 2, 16, 17, 63, 64} {
		l = append(l, []api.Pair{pair("t", 1, 0, long(length))})
	}
	full := numbers(8)
	for at := range full {
		full[at] = pair(name16[:15]+strconv.Itoa(at), 1, 0, long(64))
	}
	return append(l, []api.Pair{pair("y", 2, 0, "")}, []api.Pair{pair("y", 2, 1, "")}, full)
}

// checked: what Check says, and Bytes, too.
func checked(t *testing.T, h []api.Pair, want api.Errno) {
	t.Helper()
	if got := Check(h); got != want {
		t.Errorf("Check(%#v): %d, wanted %d", h, got, want)
	}
	s, code := Bytes(h)
	if code != want || code != api.OK && s != "" {
		t.Errorf("Bytes(%#v): %x, %d, wanted %d", h, s, code, want)
	}
}

// P9.1: heads that may be.
func TestCheckRight(t *testing.T) {
	for _, h := range heads() {
		checked(t, h, api.OK)
	}
}

// P9.1: how many pairs there are is told ahead of what they are.
func TestCheckMany(t *testing.T) {
	for n := range 40 {
		want := api.OK
		if n > 8 {
			want = api.ErrMany
		}
		checked(t, numbers(n), want)
	}
	for _, n := range []int{9, 255, 256, 257, 264, 512} {
		checked(t, make([]api.Pair, n), api.ErrMany)
		checked(t, slices.Repeat([]api.Pair{pair("A B", 9, 9, "x")}, n), api.ErrMany)
	}
	checked(t, make([]api.Pair, 8), api.ErrEmpty)
}

// P9.1: a pair's key.
func TestCheckKey(t *testing.T) {
	for _, c := range []struct {
		key  string
		want api.Errno
	}{
		{"a", api.OK}, {"a-b_0", api.OK}, {name16, api.OK}, {"", api.ErrEmpty}, {name17, api.ErrLong},
		{strings.Repeat("K", 17), api.ErrLong}, {strings.Repeat("k", 64), api.ErrLong},
		{"A", api.ErrForm}, {"a.b", api.ErrForm}, {"*", api.ErrForm}, {"#", api.ErrForm}, {"a b", api.ErrForm},
		{"\x00", api.ErrForm}, {"é", api.ErrForm}, {name16[:15] + " ", api.ErrForm},
	} {
		checked(t, []api.Pair{pair(c.key, 0, 1, "")}, c.want)
		checked(t, []api.Pair{pair(c.key, 1, 0, "x")}, c.want)
		checked(t, []api.Pair{pair(c.key, 2, 1, "")}, c.want)
		checked(t, []api.Pair{pair("first", 0, 1, ""), pair(c.key, 0, 1, "")}, c.want)
	}
}

// P9.1: each kind, with the Num and the Text that it may have, and that it may not.
func TestCheckKinds(t *testing.T) {
	nums := []int64{0, 1, 2, 3, 255, 256, 257, 1 << 32, 1<<32 + 1, -1, -2, -255, -256, math.MaxInt64, math.MinInt64}
	for kind := range 256 {
		for _, num := range nums {
			for _, length := range []int{0, 1, 63, 64, 65, 66, 256, 320, 65536} {
				want := api.OK
				switch {
				case kind > 2:
					want = api.ErrKind
				case kind == 1 && length > 64:
					want = api.ErrLong
				case kind == 2 && num != 0 && num != 1:
					want = api.ErrRange
				case kind == 1 && num != 0, kind != 1 && length > 0:
					want = api.ErrForm
				}
				if got := Check([]api.Pair{pair("a", uint8(kind), num, long(length))}); got != want {
					t.Errorf("kind %d, %d, %d bytes: %d, wanted %d", kind, num, length, got, want)
				}
			}
		}
	}
}

// P9.1: pairs of one key, whatever else they have.
func TestCheckThere(t *testing.T) {
	some := []api.Pair{pair("a", 0, 1, ""), pair("a", 0, 2, ""), pair("a", 1, 0, "x"), pair("a", 2, 1, "")}
	for _, one := range some {
		for _, other := range some {
			checked(t, []api.Pair{one, other}, api.ErrThere)
			checked(t, []api.Pair{one, pair("b", 0, 1, ""), other}, api.ErrThere)
			checked(t, []api.Pair{pair("b", 0, 1, ""), one, other}, api.ErrThere)
		}
	}
	for first := range 8 {
		for second := first + 1; second < 8; second++ {
			h := numbers(8)
			h[second].Key = h[first].Key
			checked(t, h, api.ErrThere)
		}
	}
	checked(t, []api.Pair{pair("ab", 0, 1, ""), pair("a", 0, 1, ""), pair("b", 0, 1, ""), pair("ba", 0, 1, "")}, api.OK)
}

// wrong is a pair in which something is wrong, and the first that is named.
type wrong struct {
	pair api.Pair
	want api.Errno
}

// wrongs: such pairs, of a key that may be there ahead, where the key isn't wrong.
func wrongs(k string) []wrong {
	return []wrong{
		{pair("", 3, 2, long(65)), api.ErrEmpty},
		{pair("", 1, 2, long(65)), api.ErrEmpty},
		{pair("", 2, 2, "x"), api.ErrEmpty},
		{pair(strings.Repeat(" ", 17), 3, 2, long(65)), api.ErrLong},
		{pair(name17, 2, 2, "x"), api.ErrLong},
		{pair("A", 3, 2, long(65)), api.ErrForm},
		{pair("A", 1, 2, long(65)), api.ErrForm},
		{pair("A", 2, 2, "x"), api.ErrForm},
		{pair(k, 3, 2, long(65)), api.ErrKind},
		{pair(k, 255, 0, ""), api.ErrKind},
		{pair(k, 1, 2, long(65)), api.ErrLong},
		{pair(k, 1, 0, long(65)), api.ErrLong},
		{pair(k, 2, 2, long(65)), api.ErrRange},
		{pair(k, 2, -1, "x"), api.ErrRange},
		{pair(k, 0, 2, long(65)), api.ErrForm},
		{pair(k, 0, 0, "x"), api.ErrForm},
		{pair(k, 2, 1, long(65)), api.ErrForm},
		{pair(k, 1, 1, "x"), api.ErrForm},
		{pair(k, 1, -1, ""), api.ErrForm},
	}
}

// P9.1: of what is wrong in one pair the first is told, whether its key is there ahead or not.
func TestCheckFirstOfOne(t *testing.T) {
	for _, w := range wrongs("k") {
		checked(t, []api.Pair{w.pair}, w.want)
		checked(t, []api.Pair{pair("k", 0, 1, ""), w.pair}, w.want)
		checked(t, append(numbers(7), w.pair), w.want)
		checked(t, append(numbers(8), w.pair), api.ErrMany)
	}
}

// P9.1: of what is wrong in two pairs that of the first one is told, whatever it is.
func TestCheckFirstOfTwo(t *testing.T) {
	for _, first := range wrongs("k") {
		for _, second := range wrongs("k") {
			checked(t, []api.Pair{first.pair, second.pair}, first.want)
			checked(t, []api.Pair{pair("a", 0, 0, ""), first.pair, pair("b", 0, 0, ""), second.pair}, first.want)
		}
		checked(t, []api.Pair{pair("k", 0, 1, ""), pair("k", 0, 1, ""), first.pair}, api.ErrThere)
	}
}

// P9.1: bytes that are known.
func TestBytesKnown(t *testing.T) {
	for _, c := range []struct {
		h    []api.Pair
		want string
	}{
		{nil, "\x00"},
		{[]api.Pair{}, "\x00"},
		{[]api.Pair{pair("a", 0, 258, "")}, "\x01\x00\x01a\x00\x00\x00\x00\x00\x00\x00\x01\x02"},
		{[]api.Pair{pair("a", 0, -1, "")}, "\x01\x00\x01a\x00\xff\xff\xff\xff\xff\xff\xff\xff"},
		{[]api.Pair{pair("a", 0, -2, "")}, "\x01\x00\x01a\x00\xff\xff\xff\xff\xff\xff\xff\xfe"},
		{[]api.Pair{pair("a", 0, math.MinInt64, "")}, "\x01\x00\x01a\x00\x80\x00\x00\x00\x00\x00\x00\x00"},
		{[]api.Pair{pair("a", 0, math.MaxInt64, "")}, "\x01\x00\x01a\x00\x7f\xff\xff\xff\xff\xff\xff\xff"},
		{[]api.Pair{pair("ab", 1, 0, "cde")}, "\x01\x00\x02ab\x01\x00\x03cde"},
		{[]api.Pair{pair("ab", 1, 0, "")}, "\x01\x00\x02ab\x01\x00\x00"},
		{[]api.Pair{pair("y", 2, 1, ""), pair("n", 2, 0, "")}, "\x02\x00\x01y\x02\x01\x00\x01n\x02\x00"},
	} {
		if got, code := Bytes(c.h); got != c.want || code != api.OK {
			t.Errorf("%#v: %x, %d, wanted %x", c.h, got, code, c.want)
		}
		reads(t, c.want, c.h)
	}
}

// P9.1: the bytes of heads that may be.
func TestBytes(t *testing.T) {
	for _, h := range heads() {
		if got, code := Bytes(h); got != plain(h) || code != api.OK {
			t.Errorf("%#v: %x, %d, wanted %x", h, got, code, plain(h))
		}
	}
}

// P9.1: the first pair of a key, and none.
func TestFind(t *testing.T) {
	h := []api.Pair{pair("a", 0, 1, ""), pair("b", 1, 0, "x"), pair("a", 2, 1, ""), pair("c", 2, 1, ""), pair("", 0, 9, ""), pair("A B", 7, 7, "any"), pair("b", 1, 0, "y")}
	for _, c := range []struct {
		key string
		at  int
	}{
		{"a", 0}, {"b", 1}, {"c", 3}, {"", 4}, {"A B", 5},
		{"d", -1}, {"aa", -1}, {"A", -1}, {"x", -1}, {"ab", -1}, {name17, -1},
	} {
		var want api.Pair
		if c.at >= 0 {
			want = h[c.at]
		}
		if got, ok := Find(h, c.key); got != want || ok != (c.at >= 0) {
			t.Errorf("%q: %#v, %v", c.key, got, ok)
		}
	}
	for _, none := range [][]api.Pair{nil, {}, h[:0]} {
		if got, ok := Find(none, "a"); got != (api.Pair{}) || ok {
			t.Errorf("of none: %#v, %v", got, ok)
		}
	}
	if got, ok := Find([]api.Pair{{}}, ""); got != (api.Pair{}) || !ok {
		t.Errorf("the zero pair: %#v, %v", got, ok)
	}
	full := numbers(8)
	for at := range full {
		if got, ok := Find(full, "k"+strconv.Itoa(at)); got != full[at] || !ok {
			t.Errorf("of eight: %#v, %v", got, ok)
		}
	}
}

// P9.1: two are the same, if all is the same, in the same order.
func TestSame(t *testing.T) {
	unlike := [][]api.Pair{
		nil,
		{{}},
		{{}, {}},
		{pair("a", 0, 0, "")},
		{pair("b", 0, 0, "")},
		{pair("A", 0, 0, "")},
		{pair("a", 1, 0, "")},
		{pair("a", 2, 0, "")},
		{pair("a", 0, 1, "")},
		{pair("a", 0, -1, "")},
		{pair("a", 0, 1<<32, "")},
		{pair("a", 0, 0, "a")},
		{pair("a", 1, 0, "a")},
		{pair("a", 1, 0, "b")},
		{pair("a", 1, 0, long(65))},
		{pair("a", 0, 0, ""), pair("b", 0, 0, "")},
		{pair("b", 0, 0, ""), pair("a", 0, 0, "")},
		{pair("a", 0, 0, ""), pair("a", 0, 0, "")},
		numbers(8),
		numbers(9),
	}
	for a := range unlike {
		for b := range unlike {
			if got := Same(unlike[a], slices.Clone(unlike[b])); got != (a == b) {
				t.Errorf("heads %d and %d: %v", a, b, got)
			}
		}
	}
	if !Same(nil, []api.Pair{}) || !Same([]api.Pair{}, nil) {
		t.Error("heads without pairs")
	}
}

// reads: bytes as which a head is read, whatever stands behind, which is left.
func reads(t *testing.T, s string, want []api.Pair) {
	t.Helper()
	for _, behind := range []string{"", "\x00", "\x01\x00\x01a\x02\x01", "\xff\xff\xff"} {
		i := octet.New(s + behind)
		got := Read(i)
		if !slices.Equal(got, want) || i.Err() != api.OK || i.Left() != len(behind) {
			t.Errorf("%x: %#v, %d, %d left, wanted %#v", s+behind, got, i.Err(), i.Left(), want)
		}
	}
}

// refuses: bytes of which no head is read, with that error.
func refuses(t *testing.T, s string, want api.Errno) {
	t.Helper()
	i := octet.New(s)
	if got := Read(i); len(got) > 0 || i.Err() != want {
		t.Errorf("%x: %#v, %d, wanted %d", s, got, i.Err(), want)
	}
}

// P9.2, P9.3: heads that may be are read as they were; several of them one behind the other.
func TestReadWritten(t *testing.T) {
	all := ""
	for _, h := range heads() {
		s, code := Bytes(h)
		if code != api.OK {
			t.Fatal(code)
		}
		reads(t, s, h)
		all += s
	}
	i := octet.New(all)
	for _, h := range heads() {
		if got := Read(i); !Same(got, h) {
			t.Errorf("%#v, wanted %#v", got, h)
		}
	}
	if i.End() != api.OK {
		t.Errorf("at the end: %d, %d left", i.End(), i.Left())
	}
}

// P9.3: what was written is the same only if the heads are, and is written so again when it was read.
func TestWrittenAgain(t *testing.T) {
	seen := map[string][]api.Pair{}
	for _, h := range heads() {
		s, _ := Bytes(h)
		if other, ok := seen[s]; ok && !Same(h, other) {
			t.Errorf("%#v and %#v are both %x", h, other, s)
		}
		seen[s] = h
		if again, code := Bytes(Read(octet.New(s))); again != s || code != api.OK {
			t.Errorf("%x, again %x, %d", s, again, code)
		}
	}
}

// P9.2: how many there are is told ahead of whether they are there, and of what they are.
func TestReadMany(t *testing.T) {
	for count := range 256 {
		want := api.ErrMany
		switch {
		case count == 0:
			reads(t, "\x00", nil)
			continue
		case count <= 8:
			want = api.ErrShort
		}
		refuses(t, string([]byte{byte(count)}), want)
		if count > 8 {
			refuses(t, string([]byte{byte(count)})+plain(numbers(count))[1:], api.ErrMany)
			refuses(t, string([]byte{byte(count)})+strings.Repeat("\xff", 4000), api.ErrMany)
			refuses(t, string([]byte{byte(count)})+strings.Repeat("\x00", 4000), api.ErrMany)
		}
	}
	refuses(t, "\x02"+plain(numbers(1))[1:], api.ErrShort)
	refuses(t, "\x08"+plain(numbers(7))[1:], api.ErrShort)
}

// P9.2: bytes that end at each place are too short.
func TestReadShort(t *testing.T) {
	for _, h := range heads() {
		s := plain(h)
		for length := range len(s) {
			refuses(t, s[:length], api.ErrShort)
		}
	}
}

// P9.2: a key that is too long is told ahead of whether it is there, and of what it is.
func TestReadKeyLong(t *testing.T) {
	for _, length := range []int{17, 18, 64, 255, 256, 272, 65535} {
		head := "\x01" + string([]byte{byte(length >> 8), byte(length)})
		refuses(t, head[:2], api.ErrShort)
		refuses(t, head, api.ErrLong)
		refuses(t, head+"A", api.ErrLong)
		refuses(t, head+strings.Repeat("a", length)+"\x02\x01", api.ErrLong)
		refuses(t, head+strings.Repeat("a", length)+"\x07", api.ErrLong)
	}
	refuses(t, "\x01\x00\x10", api.ErrShort)
	refuses(t, "\x01\x00\x10"+strings.Repeat("A", 15), api.ErrShort)
}

// P9.2: a Text that is too long is told ahead of whether it is there, and of what the key is.
func TestReadTextLong(t *testing.T) {
	for _, key := range []string{"a", "A", ""} {
		for _, length := range []int{65, 66, 255, 256, 320, 65535} {
			s := "\x01" + plainPair(api.Pair{Key: key, Kind: 1, Text: long(length)})
			ahead := len(s) - length
			refuses(t, s[:ahead-1], api.ErrShort)
			refuses(t, s[:ahead], api.ErrLong)
			refuses(t, s[:len(s)-1], api.ErrLong)
			refuses(t, s, api.ErrLong)
		}
		refuses(t, "\x01"+plainPair(api.Pair{Key: key, Kind: 1, Text: long(64)})[:len(key)+5], api.ErrShort)
	}
}

// P9.2: another kind is told ahead of what the key is, and of what comes next.
func TestReadKind(t *testing.T) {
	for kind := 3; kind < 256; kind++ {
		for _, key := range []string{"a", "A", "", name16} {
			s := "\x01" + plainPair(api.Pair{Key: key, Kind: uint8(kind)})
			refuses(t, s[:len(s)-1], api.ErrShort)
			for _, behind := range []string{"", "\x00", "\x01", "\xff\xff", strings.Repeat("\x00", 8), strings.Repeat("\xff", 80)} {
				refuses(t, s+behind, api.ErrKind)
			}
		}
	}
}

// P9.2: behind all of a pair its key's error, then that of a Num, then that it is there.
func TestReadChecked(t *testing.T) {
	for _, c := range []struct {
		key  string
		want api.Errno
	}{
		{"", api.ErrEmpty}, {"A", api.ErrForm}, {"a.b", api.ErrForm}, {" ", api.ErrForm}, {"é", api.ErrForm}, {name16[:15] + "/", api.ErrForm},
	} {
		for _, rest := range []api.Pair{{Num: 1}, {Kind: 1, Text: "x"}, {Kind: 2, Num: 1}, {Kind: 2, Num: 2}, {Kind: 2, Num: 255}} {
			rest.Key = c.key
			s := plain([]api.Pair{rest})
			refuses(t, s, c.want)
			refuses(t, s+"\xff", c.want)
			refuses(t, s[:len(s)-1], api.ErrShort)
		}
	}
	for num := int64(2); num < 256; num++ {
		refuses(t, plain([]api.Pair{pair("a", 2, num, "")}), api.ErrRange)
		refuses(t, plain([]api.Pair{pair("a", 0, 1, ""), pair("a", 2, num, "")}), api.ErrRange)
	}
	some := []api.Pair{pair("a", 0, 1, ""), pair("a", 0, 2, ""), pair("a", 1, 0, "x"), pair("a", 2, 1, "")}
	for _, one := range some {
		for _, other := range some {
			s := plain([]api.Pair{one, pair("b", 2, 0, ""), other})
			refuses(t, s, api.ErrThere)
			refuses(t, s+"\x09", api.ErrThere)
			refuses(t, s[:len(s)-1], api.ErrShort)
		}
	}
	for at := 1; at < 8; at++ {
		h := numbers(8)
		h[at].Key = "k0"
		refuses(t, plain(h), api.ErrThere)
	}
}

// P9.2: of what is wrong in two pairs that of the first one is told: the second isn't looked at.
func TestReadFirstOfTwo(t *testing.T) {
	ahead := plainPair(pair("a", 0, 1, ""))
	some := []wrong{
		{pair("a", 0, 1, ""), api.ErrThere},
		{pair(name17, 0, 1, ""), api.ErrLong},
		{pair("b", 3, 0, ""), api.ErrKind},
		{pair("c", 1, 0, long(65)), api.ErrLong},
		{pair("", 0, 1, ""), api.ErrEmpty},
		{pair("A", 0, 1, ""), api.ErrForm},
		{pair("d", 2, 2, ""), api.ErrRange},
	}
	for _, first := range some {
		for _, second := range some {
			refuses(t, "\x03"+ahead+plainPair(first.pair)+plainPair(second.pair), first.want)
		}
		refuses(t, "\x03"+ahead+plainPair(first.pair), first.want)
		refuses(t, "\x08"+ahead+plainPair(first.pair), first.want)
	}
}

// P9.2: where there is an error already nothing is read, and it stays; of nil nothing is read.
func TestReadBehindError(t *testing.T) {
	for _, s := range []string{"", "\x00", "\x09", plain(numbers(2)), "\x01\x00\x01A\x02\x01"} {
		i := octet.New(s)
		i.Fail(api.ErrSum)
		if got := Read(i); len(got) > 0 || i.Err() != api.ErrSum || i.Left() != 0 {
			t.Errorf("%x: %#v, %d", s, got, i.Err())
		}
	}
	i := octet.New("\x09" + plain(numbers(2)))
	for range 3 {
		if got := Read(i); len(got) > 0 || i.Err() != api.ErrMany || i.Left() != 0 {
			t.Errorf("again: %#v, %d", got, i.Err())
		}
	}
	if got := Read(nil); len(got) > 0 {
		t.Errorf("of nil: %#v", got)
	}
}

// told: what is read of bytes as the document's words have it, and how many of them.
func told(s string) ([]api.Pair, int, api.Errno) {
	at, code := 0, api.OK
	take := func(n int) string {
		if code == api.OK && at+n > len(s) {
			code = api.ErrShort
		}
		if code != api.OK {
			return strings.Repeat("\x00", n)
		}
		at += n
		return s[at-n : at]
	}
	text := func(most int) string {
		length := take(2)
		n := int(length[0])*256 + int(length[1])
		if code == api.OK && n > most {
			code = api.ErrLong
		}
		return take(n)
	}
	count := int(take(1)[0])
	if count > 8 {
		return nil, 0, api.ErrMany
	}
	var h []api.Pair
	for range count {
		var p api.Pair
		p.Key = text(16)
		p.Kind = take(1)[0]
		if code == api.OK && p.Kind > 2 {
			code = api.ErrKind
		}
		switch p.Kind {
		case 0:
			p.Num = int64(binary.BigEndian.Uint64([]byte(take(8))))
		case 1:
			p.Text = text(64)
		case 2:
			p.Num = int64(take(1)[0])
		}
		h = append(h, p)
		if code == api.OK {
			code = Check(h)
		}
		if code != api.OK {
			return nil, 0, code
		}
	}
	if code != api.OK {
		return nil, 0, code
	}
	return h, at, api.OK
}

// P9.2, P9.3: each byte turned to each other one; what is read of it may be, and would be written so.
func TestReadAnyBytes(t *testing.T) {
	for _, h := range [][]api.Pair{
		{pair("a", 2, 1, ""), pair("ab", 0, -2, ""), pair("b", 1, 0, "\x00\x01a\x02\x01"), pair("c", 2, 0, "")},
		{pair("a", 1, 0, long(64)), pair("b", 1, 0, ""), pair(name16, 0, 7, "")},
		numbers(8),
	} {
		s := plain(h) + "\x00\x01a\x02\x01\x00\x01d\x02\x01"
		for at := range len(s) {
			for b := range 256 {
				turned := s[:at] + string([]byte{byte(b)}) + s[at+1:]
				want, length, code := told(turned)
				i := octet.New(turned)
				got := Read(i)
				if !slices.Equal(got, want) || i.Err() != code || code == api.OK && i.Left() != len(turned)-length {
					t.Fatalf("%x: %#v, %d, wanted %#v, %d", turned, got, i.Err(), want, code)
				}
				if code != api.OK {
					continue
				}
				if again, code := Bytes(got); code != api.OK || again != turned[:length] {
					t.Fatalf("%x: again %x, %d", turned, again, code)
				}
			}
		}
	}
}

// Memory: what is handed in isn't changed, spare room included; an answer is new.
func TestMemory(t *testing.T) {
	spare := append(make([]api.Pair, 0, 9), numbers(8)...)
	spare = append(spare, api.Pair{Key: "spare"})
	h := spare[:4]
	was := slices.Clone(spare)
	Check(h)
	Bytes(h)
	Find(h, "k1")
	Same(h, spare)
	if !slices.Equal(spare, was) {
		t.Errorf("%#v, wanted %#v", spare, was)
	}

	s := plain(numbers(8))
	first := Read(octet.New(s))
	for at := range first {
		first[at] = api.Pair{Key: "other"}
	}
	if second := Read(octet.New(s)); !slices.Equal(second, numbers(8)) {
		t.Errorf("%#v", second)
	}
}
