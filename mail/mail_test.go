package mail

import (
	"encoding/binary"
	"math"
	"reflect"
	"slices"
	"strconv"
	"strings"
	"testing"

	"stairwell/api"
	"stairwell/head"
	"stairwell/octet"
)

const (
	name16 = "sixteen-bytes-it"
	name17 = "seventeen-bytes-a"
)

// fields: what a message has, in the order of its bytes.
var fields = strings.Fields("ID Shop Key Head Body Due Hops")

// checks: what Check looks at, in its order.
var checks = strings.Fields("Shop Key Head Body Hops")

// pair: a pair, whether it may be or not.
func pair(key string, kind uint8, num int64, text string) api.Pair {
	return api.Pair{Key: key, Kind: kind, Num: num, Text: text}
}

// keyed: so many pairs of unlike keys.
func keyed(n int) []api.Pair {
	var l []api.Pair
	for at := range n {
		l = append(l, pair("k"+strconv.Itoa(at), 0, int64(at)-3, ""))
	}
	return l
}

// long: a text of so many bytes, any bytes.
func long(n int) string {
	b := make([]byte, n)
	for at := range b {
		b[at] = byte(at*at*5 + at*37 + 254)
	}
	return string(b)
}

// wordy: a key of so many bytes, of several words.
func wordy(n int) string { return strings.Repeat("ab.", n)[:n-1] + "z" }

// fullest: a head of as many bytes as one may have.
func fullest() []api.Pair {
	h := keyed(8)
	for at := range h {
		h[at] = pair(name16[:15]+strconv.Itoa(at), 1, 0, long(64))
	}
	return h
}

// with: the message, a field of it being that.
func with(m api.Mail, field string, value any) api.Mail {
	reflect.ValueOf(&m).Elem().FieldByName(field).Set(reflect.ValueOf(value))
	return m
}

// mayBe: of a field values that may be, its edges among them; the first one is the least, the last one the longest.
func mayBe(field string) []any {
	var l []any
	switch field {
	case "ID", "Due":
		for _, n := range []uint64{0, 1, 2, 255, 256, 65536, 1 << 32, 1 << 63, 0x0102030405060708, math.MaxUint64 - 1, math.MaxUint64} {
			l = append(l, n)
		}
	case "Shop":
		l = append(l, "a", "b", "-", "_", "0", "a-b_0", name16)
	case "Key":
		l = append(l, "", "a", "a.b", "a.b.c", "-._.0", wordy(63), strings.Repeat("k", 64), wordy(64))
	case "Head":
		l = append(l, []api.Pair(nil), []api.Pair{}, keyed(1), keyed(7), keyed(8),
			[]api.Pair{pair("a", 0, math.MinInt64, ""), pair("b", 0, math.MaxInt64, "")},
			[]api.Pair{pair("b", 1, 0, ""), pair("a", 1, 0, "\x00\x01a"), pair("c", 2, 0, ""), pair("d", 2, 1, "")}, fullest())
	case "Body":
		l = append(l, "", "x", "\x00", "\x00\x01x", "\xff\xc3\xa9", long(64), long(255), long(256))
	case "Hops":
		l = append(l, uint8(0), uint8(1), uint8(2), uint8(3), uint8(4))
	}
	return l
}

// wrong is a value that may not be, and what is said of it.
type wrong struct {
	value any
	want  api.Errno
}

// mayNot: of a field values that may not be.
func mayNot(field string) []wrong {
	var l []wrong
	switch field {
	case "Shop":
		l = append(l, wrong{"", api.ErrEmpty}, wrong{name17, api.ErrLong}, wrong{strings.Repeat("A", 17), api.ErrLong}, wrong{long(65536), api.ErrLong})
		for _, s := range []string{"A", "a.b", "*", "#", " ", "a ", "\x00", "é", name16[:15] + "/"} {
			l = append(l, wrong{s, api.ErrForm})
		}
	case "Key":
		l = append(l, wrong{wordy(65), api.ErrLong}, wrong{strings.Repeat("A", 65), api.ErrLong}, wrong{strings.Repeat("*.", 32) + "*", api.ErrLong}, wrong{long(65536), api.ErrLong})
		for _, s := range []string{"A", ".", "a.", ".a", "a..b", "a b", "*", "#", "a.*.#", "**", "\x00", wordy(63) + "."} {
			l = append(l, wrong{s, api.ErrForm})
		}
	case "Head":
		l = append(l, wrong{keyed(9), api.ErrMany}, wrong{make([]api.Pair, 256), api.ErrMany},
			wrong{[]api.Pair{{}}, api.ErrEmpty}, wrong{[]api.Pair{pair(name17, 0, 0, "")}, api.ErrLong},
			wrong{[]api.Pair{pair("A", 0, 0, "")}, api.ErrForm}, wrong{[]api.Pair{pair("a", 3, 0, "")}, api.ErrKind},
			wrong{[]api.Pair{pair("a", 1, 0, long(65))}, api.ErrLong}, wrong{[]api.Pair{pair("a", 2, 2, "")}, api.ErrRange},
			wrong{[]api.Pair{pair("a", 0, 0, "x")}, api.ErrForm}, wrong{[]api.Pair{pair("a", 1, 1, "x")}, api.ErrForm},
			wrong{[]api.Pair{pair("a", 0, 0, ""), pair("b", 0, 0, ""), pair("a", 2, 1, "")}, api.ErrThere})
	case "Body":
		l = append(l, wrong{long(257), api.ErrLong}, wrong{long(512), api.ErrLong}, wrong{long(65535), api.ErrLong}, wrong{long(65536), api.ErrLong})
	case "Hops":
		for _, n := range []uint8{5, 6, 8, 128, 255} {
			l = append(l, wrong{n, api.ErrRange})
		}
	}
	return l
}

// some: a message of whose fields each has a value that may be: the least, the last, or one between.
func some(which int) api.Mail {
	var m api.Mail
	for _, field := range fields {
		l := mayBe(field)
		m = with(m, field, l[min(which, len(l)-1)])
	}
	return m
}

// last is the number of the values that are the last ones.
const last = 99

// mails: messages that may be, of all fields at all edges.
func mails() []api.Mail {
	var l []api.Mail
	for _, which := range []int{0, 1, 2, 4, last} {
		l = append(l, some(which))
		for _, field := range fields {
			for _, value := range mayBe(field) {
				l = append(l, with(some(which), field, value))
			}
		}
	}
	return l
}

// plainText: a text's bytes, as the document's words have them.
func plainText(s string) string {
	return string(binary.BigEndian.AppendUint16(nil, uint16(len(s)))) + s
}

// plainNumber: a number's eight bytes.
func plainNumber(n uint64) string { return string(binary.BigEndian.AppendUint64(nil, n)) }

// plainHead: a head's bytes, whether it may be or not.
func plainHead(h []api.Pair) string {
	s := string([]byte{byte(len(h))})
	for _, p := range h {
		s += plainText(p.Key) + string([]byte{p.Kind})
		switch p.Kind {
		case 0:
			s += plainNumber(uint64(p.Num))
		case 1:
			s += plainText(p.Text)
		case 2:
			s += string([]byte{byte(p.Num)})
		}
	}
	return s
}

// plain: a message's bytes, whether it may be or not.
func plain(m api.Mail) string {
	return plainNumber(m.ID) + plainText(m.Shop) + plainText(m.Key) + plainHead(m.Head) + plainText(m.Body) +
		plainNumber(m.Due) + string([]byte{m.Hops})
}

// alike: are two the same in all, a head without pairs being nil or empty?
func alike(a, b api.Mail) bool {
	if len(a.Head) == 0 && len(b.Head) == 0 {
		a.Head, b.Head = nil, nil
	}
	return reflect.DeepEqual(a, b)
}

// none: is it the zero message?
func none(m api.Mail) bool { return alike(m, api.Mail{}) }

// checked: what Check says, and Bytes, too; of what may not be there are no bytes, and its size is 0.
func checked(t *testing.T, m api.Mail, want api.Errno) {
	t.Helper()
	if got := Check(m); got != want {
		t.Errorf("%#v: %d, wanted %d", m, got, want)
	}
	bytes := plain(m)
	if want != api.OK {
		bytes = ""
	}
	if s, code := Bytes(m); s != bytes || code != want {
		t.Errorf("%#v: bytes %x, %d, wanted %x, %d", m, s, code, bytes, want)
	}
	if size := Size(m); size != len(bytes) {
		t.Errorf("%#v: size %d, wanted %d", m, size, len(bytes))
	}
}

// P13.1: messages that may be, their bytes and their sizes.
func TestRight(t *testing.T) {
	for _, m := range mails() {
		checked(t, m, api.OK)
	}
}

// P13.1: each error of each field, whatever the others are.
func TestWrong(t *testing.T) {
	for _, field := range checks {
		for _, w := range mayNot(field) {
			for _, which := range []int{0, 1, last} {
				checked(t, with(some(which), field, w.value), w.want)
			}
		}
	}
}

// P13.1: of what is wrong in two fields that of the one named first is told.
func TestFirstOfTwo(t *testing.T) {
	for at, first := range checks {
		for _, second := range checks[at+1:] {
			for _, one := range mayNot(first) {
				for _, other := range mayNot(second) {
					if got := Check(with(with(some(1), first, one.value), second, other.value)); got != one.want {
						t.Errorf("%s %#v, %s %#v: %d, wanted %d", first, one.value, second, other.value, got, one.want)
					}
				}
			}
		}
	}
	m := some(1)
	for _, field := range slices.Backward(checks) {
		w := mayNot(field)[0]
		m = with(m, field, w.value)
		checked(t, m, w.want)
	}
	checked(t, api.Mail{}, api.ErrEmpty)
}

// P13.1: the edges that the document names, each beside the first that may not be.
func TestEdges(t *testing.T) {
	for _, c := range []struct {
		field    string
		may, not any
		want     api.Errno
		size     int // of the one that may be
	}{
		{"Shop", name16, name17, api.ErrLong, 25 - 1 + 16},
		{"Key", wordy(64), wordy(65), api.ErrLong, 25 + 64},
		{"Head", keyed(8), keyed(9), api.ErrMany, 25 + 8*(4+1+8)},
		{"Body", long(256), long(257), api.ErrLong, 25 + 256},
		{"Hops", uint8(4), uint8(5), api.ErrRange, 25},
	} {
		m := api.Mail{Shop: "a"}
		if got := Size(with(m, c.field, c.may)); got != c.size {
			t.Errorf("%s: size %d, wanted %d", c.field, got, c.size)
		}
		checked(t, with(m, c.field, c.may), api.OK)
		checked(t, with(m, c.field, c.not), c.want)
	}
	for _, n := range []uint64{0, math.MaxUint64} {
		checked(t, api.Mail{ID: n, Shop: "a"}, api.OK)
		checked(t, api.Mail{Shop: "a", Due: n}, api.OK)
	}
	checked(t, some(last), api.OK)
	if got, want := Size(some(last)), 8+18+66+1+8*(18+1+66)+258+8+1; got != want {
		t.Errorf("the greatest: %d, wanted %d", got, want)
	}
}

// P13.1, P13.2: bytes that are known, the document's example among them.
func TestKnown(t *testing.T) {
	const eight, most = "\x01\x02\x03\x04\x05\x06\x07\x08", "\xff\xff\xff\xff\xff\xff\xff\xff"
	const n = 0x0102030405060708
	noughts := strings.Repeat("\x00", 8)
	for _, c := range []struct {
		m    api.Mail
		want string
	}{
		{api.Mail{Shop: "a"}, noughts + "\x00\x01a\x00\x00\x00\x00\x00" + noughts + "\x00"},
		{api.Mail{ID: n, Shop: "ab", Key: "k.l", Head: []api.Pair{pair("p", 2, 1, "")}, Body: "xyz", Due: math.MaxUint64, Hops: 4},
			eight + "\x00\x02ab\x00\x03k.l\x01\x00\x01p\x02\x01\x00\x03xyz" + most + "\x04"},
		{api.Mail{ID: math.MaxUint64, Shop: "0", Head: []api.Pair{pair("n", 0, -2, ""), pair("t", 1, 0, "u")}, Due: n, Hops: 1},
			most + "\x00\x010\x00\x00\x02\x00\x01n\x00" + most[:7] + "\xfe\x00\x01t\x01\x00\x01u\x00\x00" + eight + "\x01"},
	} {
		if got, code := Bytes(c.m); got != c.want || code != api.OK {
			t.Errorf("%#v: %x, %d, wanted %x", c.m, got, code, c.want)
		}
		if got := Size(c.m); got != len(c.want) {
			t.Errorf("%#v: %d, wanted %d", c.m, got, len(c.want))
		}
		reads(t, c.want, c.m)
	}
	if got := Size(api.Mail{Shop: "a"}); got != 25 {
		t.Errorf("the example: %d", got)
	}
}

// unlike: messages no two of which are the same, whether they may be or not.
func unlike() []api.Mail {
	l := []api.Mail{{}, some(1)}
	for _, base := range []api.Mail{{}, some(1)} {
		for _, field := range fields {
			values := mayBe(field)
			for _, w := range mayNot(field) {
				values = append(values, w.value)
			}
			for _, value := range values {
				m := with(base, field, value)
				if !slices.ContainsFunc(l, func(other api.Mail) bool { return alike(m, other) }) {
					l = append(l, m)
				}
			}
		}
	}
	a, b := pair("a", 0, 1, ""), pair("b", 0, 1, "")
	for _, h := range [][]api.Pair{{a}, {b}, {a, b}, {b, a}, {a, a}, {a, b, a}} {
		l = append(l, api.Mail{Head: h})
	}
	return append(l, api.Mail{Shop: "a", Key: "b"}, api.Mail{Shop: "b", Key: "a"}, api.Mail{Key: "b", Body: "a"}, api.Mail{ID: 1, Due: 2}, api.Mail{ID: 2, Due: 1})
}

// P13.1: two are the same, if all is the same; a copy is.
func TestSame(t *testing.T) {
	l := unlike()
	for x := range l {
		for y := range l {
			other := l[y]
			other.Head = slices.Clone(other.Head)
			if got := Same(l[x], other); got != (x == y) {
				t.Errorf("%#v and %#v: %v", l[x], other, got)
			}
		}
	}
	if !Same(api.Mail{}, api.Mail{Head: []api.Pair{}}) || !Same(api.Mail{Head: []api.Pair{}}, api.Mail{}) {
		t.Error("messages whose heads have no pairs")
	}
}

// P13.1: a copy is the same, whether it may be or not; its head is its own, spare room included.
func TestCopy(t *testing.T) {
	for _, m := range append(mails(), unlike()...) {
		if got := Copy(m); !alike(got, m) {
			t.Errorf("%#v, wanted %#v", got, m)
		}
	}
	for n := range 9 {
		spare := append(keyed(8), pair("spare", 0, 0, ""))
		m := api.Mail{Shop: "a", Head: spare[:n]}
		was := slices.Clone(spare)
		one, other := Copy(m), Copy(m)
		for at := range one.Head {
			one.Head[at] = api.Pair{Key: "own"}
		}
		one.Head = append(one.Head, api.Pair{Key: "more"})
		if !slices.Equal(spare, was) || !slices.Equal(other.Head, was[:n]) {
			t.Errorf("%d pairs: %#v, %#v", n, spare, other)
		}
		for at := range spare {
			spare[at] = api.Pair{Key: "other"}
		}
		if !slices.Equal(other.Head, was[:n]) || len(one.Head) != n+1 {
			t.Errorf("%d pairs: the copy is %#v", n, other)
		}
	}
}

// reads: bytes as which a message is read, whatever stands behind, which is left.
func reads(t *testing.T, s string, want api.Mail) {
	t.Helper()
	for _, behind := range []string{"", "\x00", "\x01\x00\x01a\x02\x01", "\xff\xff\xff"} {
		i := octet.New(s + behind)
		if got := Read(i); !alike(got, want) || i.Err() != api.OK || i.Left() != len(behind) {
			t.Errorf("%x: %#v, %d, %d left, wanted %#v", s+behind, got, i.Err(), i.Left(), want)
		}
	}
}

// refuses: bytes of which no message is read, with that error.
func refuses(t *testing.T, s string, want api.Errno) {
	t.Helper()
	i := octet.New(s)
	if got := Read(i); !none(got) || i.Err() != want {
		t.Errorf("%x: %#v, %d, wanted %d", s, got, i.Err(), want)
	}
}

// P13.2, P13.3: messages that may be are read as they were, one behind the other, and written so again.
func TestReadWritten(t *testing.T) {
	all := ""
	seen := map[string]api.Mail{}
	for _, m := range mails() {
		s, code := Bytes(m)
		if code != api.OK {
			t.Fatal(code)
		}
		reads(t, s, m)
		all += s
		if other, ok := seen[s]; ok && !alike(m, other) {
			t.Errorf("%#v and %#v are both %x", m, other, s)
		}
		seen[s] = m
		if again, code := Bytes(Read(octet.New(s))); again != s || code != api.OK {
			t.Errorf("%x, again %x, %d", s, again, code)
		}
	}
	i := octet.New(all)
	for _, m := range mails() {
		if got := Read(i); !alike(got, m) {
			t.Errorf("%#v, wanted %#v", got, m)
		}
	}
	if i.End() != api.OK {
		t.Errorf("at the end: %d, %d left", i.End(), i.Left())
	}
}

// P13.2: bytes that end at each place are too short, also where Check would say something of what is there.
func TestReadShort(t *testing.T) {
	l := []api.Mail{some(0), some(1), some(2), some(last)}
	bad := some(1)
	bad.Shop, bad.Key, bad.Hops = "A", "*", 5
	for _, m := range append(l, bad) {
		s := plain(m)
		for length := range len(s) {
			refuses(t, s[:length], api.ErrShort)
		}
	}
}

// P13.2: a text that is too long is told ahead of whether it is there, and of what stands ahead of it or behind.
func TestReadLong(t *testing.T) {
	for _, c := range []struct {
		field string
		most  int
	}{{"Shop", 16}, {"Key", 64}, {"Body", 256}} {
		for _, length := range []int{c.most, c.most + 1, c.most + 2, 512, 65535} {
			want := api.ErrLong
			if length == c.most {
				want = api.ErrShort
			}
			text := strings.Repeat("Z", length)
			s := plain(with(some(1), c.field, text))
			end := strings.Index(s, text)
			for _, cut := range []int{end, end + 1, end + length - 1} {
				refuses(t, s[:cut], want)
			}
			refuses(t, s[:end-1], api.ErrShort)
			if length > c.most {
				refuses(t, s, want)
			}
		}
	}
}

// P13.2: what Check says is told behind all of the bytes, but of the head, whose own error is met where it stands.
func TestReadChecked(t *testing.T) {
	for _, field := range checks {
		for _, w := range mayNot(field) {
			if text, ok := w.value.(string); ok && len(text) > 65535 {
				continue // there are no such bytes
			}
			if h, ok := w.value.([]api.Pair); ok && (len(h) > 255 || h[0].Key == "a" && w.want == api.ErrForm) {
				continue // nor of these: they tell nothing that isn't of its pair's kind
			}
			for _, which := range []int{0, 1, last} {
				s := plain(with(some(which), field, w.value))
				refuses(t, s, w.want)
				refuses(t, s+"\x00", w.want)
			}
		}
	}
	for n := 5; n < 256; n++ {
		s := plain(some(2))
		refuses(t, s[:len(s)-1]+string([]byte{byte(n)}), api.ErrRange)
	}
}

// P13.2: of two errors the one that is met first is told: those of the bytes in their order, then Check's in its own.
func TestReadFirst(t *testing.T) {
	many := keyed(9)
	for _, c := range []struct {
		m    api.Mail
		want api.Errno
	}{
		{api.Mail{Shop: "", Head: many}, api.ErrMany},
		{api.Mail{Shop: "A", Key: wordy(65), Head: many}, api.ErrLong},
		{api.Mail{Shop: name17, Head: many}, api.ErrLong},
		{api.Mail{Shop: "A", Key: "*", Head: []api.Pair{pair("a", 3, 0, "")}, Body: long(257), Hops: 5}, api.ErrKind},
		{api.Mail{Shop: "A", Key: "*", Head: []api.Pair{pair("a", 2, 2, "")}, Body: long(257), Hops: 5}, api.ErrRange},
		{api.Mail{Shop: "A", Key: "*", Head: []api.Pair{pair("a", 2, 1, ""), pair("a", 2, 1, "")}, Body: long(257), Hops: 5}, api.ErrThere},
		{api.Mail{Shop: "A", Key: "*", Body: long(257), Hops: 5}, api.ErrLong},
		{api.Mail{Shop: "", Key: "*", Hops: 5}, api.ErrEmpty},
		{api.Mail{Shop: "A", Key: "", Hops: 5}, api.ErrForm},
		{api.Mail{Shop: "a", Key: "*", Hops: 5}, api.ErrForm},
		{api.Mail{Shop: "a", Key: "a", Hops: 5}, api.ErrRange},
	} {
		refuses(t, plain(c.m), c.want)
	}
	s := plain(api.Mail{Shop: "A", Key: "*", Head: keyed(2), Body: "x", Hops: 5})
	refuses(t, s[:len(s)-1], api.ErrShort)
	s = plain(api.Mail{Shop: "A", Key: "*", Head: []api.Pair{pair("", 0, 0, "")}, Body: "x"})
	refuses(t, s[:len(s)-12], api.ErrEmpty)
	refuses(t, s[:len(s)-13], api.ErrShort)
}

// P13.2: behind an error nothing is read, and the first error stays; of nil nothing.
func TestReadBehindError(t *testing.T) {
	for _, code := range []api.Errno{api.ErrShort, api.ErrForm, api.ErrSum} {
		i := octet.New(plain(some(1)) + plain(some(2)))
		Read(i)
		i.Fail(code)
		if got := Read(i); !none(got) || i.Err() != code {
			t.Errorf("%#v, %d, wanted %d", got, i.Err(), code)
		}
	}
	i := octet.New(plain(with(some(1), "Hops", uint8(5))) + plain(some(2)))
	for range 2 {
		if got := Read(i); !none(got) || i.Err() != api.ErrRange || i.Left() != 0 {
			t.Errorf("%#v, %d, %d left", got, i.Err(), i.Left())
		}
	}
	if got := Read(nil); !none(got) {
		t.Errorf("of nil: %#v", got)
	}
}

// plainReader reads as the document's words have it; the first error stays.
type plainReader struct {
	rest string
	code api.Errno
}

func (r *plainReader) take(n int) string {
	if r.code == api.OK && len(r.rest) < n {
		r.code = api.ErrShort
	}
	if r.code != api.OK {
		return strings.Repeat("\x00", n)
	}
	s := r.rest[:n]
	r.rest = r.rest[n:]
	return s
}

func (r *plainReader) number() uint64 { return binary.BigEndian.Uint64([]byte(r.take(8))) }

func (r *plainReader) text(most int) string {
	length := int(binary.BigEndian.Uint16([]byte(r.take(2))))
	if r.code == api.OK && length > most {
		r.code = api.ErrLong
	}
	if r.code != api.OK {
		return ""
	}
	return r.take(length)
}

// told: the message of such bytes, what is left, and the error.
func told(s string) (api.Mail, int, api.Errno) {
	r := &plainReader{rest: s}
	var m api.Mail
	m.ID, m.Shop, m.Key = r.number(), r.text(16), r.text(64)
	if r.code == api.OK { // a head is as layer 9 reads it
		i := octet.New(r.rest)
		m.Head = head.Read(i)
		r.rest, r.code = r.rest[len(r.rest)-i.Left():], i.Err()
	}
	m.Body, m.Due, m.Hops = r.text(256), r.number(), r.take(1)[0]
	if r.code == api.OK {
		r.code = Check(m)
	}
	if r.code != api.OK {
		return api.Mail{}, 0, r.code
	}
	return m, len(r.rest), api.OK
}

// P13.2, P13.3: each byte turned to each other one; what is read of it may be, and would be written so.
func TestReadAnyBytes(t *testing.T) {
	l := []api.Mail{
		some(0), some(1),
		{ID: 7, Shop: "ab", Key: "a.b", Head: []api.Pair{pair("a", 2, 1, ""), pair("b", 0, -2, ""), pair("c", 1, 0, "\x00\x01")}, Body: "\x00\x01x", Due: 9, Hops: 4},
		{ID: 1, Shop: name16, Key: wordy(64), Body: long(64)},
	}
	for _, m := range l {
		s := plain(m) + "\x00\x01a\x02\x01\x00\x01d\x02\x01"
		for at := range len(s) {
			for b := range 256 {
				turned := s[:at] + string([]byte{byte(b)}) + s[at+1:]
				want, left, code := told(turned)
				i := octet.New(turned)
				got := Read(i)
				if !alike(got, want) || i.Err() != code || i.Left() != left {
					t.Fatalf("%x: %#v, %d, %d left, wanted %#v, %d, %d left", turned, got, i.Err(), i.Left(), want, code, left)
				}
				if code != api.OK {
					continue
				}
				if again, code := Bytes(got); code != api.OK || again != turned[:len(turned)-left] {
					t.Fatalf("%x: again %x, %d", turned, again, code)
				}
			}
		}
	}
}

// Memory: what is handed in isn't changed, spare room included; an answer is new.
func TestMemory(t *testing.T) {
	spare := append(keyed(8), pair("spare", 0, 0, ""))
	was := slices.Clone(spare)
	m := api.Mail{Shop: "a", Head: spare[:4]}
	Check(m)
	Bytes(m)
	Size(m)
	Same(m, Copy(m))
	if !slices.Equal(spare, was) {
		t.Errorf("%#v, wanted %#v", spare, was)
	}

	s := plain(some(last))
	first := Read(octet.New(s))
	for at := range first.Head {
		first.Head[at] = api.Pair{Key: "other"}
	}
	if second := Read(octet.New(s)); !alike(second, some(last)) {
		t.Errorf("%#v", second)
	}
}
