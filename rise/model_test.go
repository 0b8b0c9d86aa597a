package rise

import (
	"encoding/binary"
	"math"
	"math/rand"
	"reflect"
	"slices"
	"strings"
	"testing"

	"stairwell/api"
	"stairwell/mail"
	"stairwell/octet"
)

// plain is a rise as the document's words have it: how many came, and of these the last ones, as many as one likes; ahead of
// these there came others, if more came than that.
type plain struct {
	total uint64
	all   []api.Mail
}

// kept: the last 16.
func (p plain) kept() []api.Mail { return p.all[max(0, len(p.all)-16):] }

// first: the number of the first that is kept.
func (p plain) first() uint64 { return p.total - uint64(len(p.kept())) + 1 }

func (p plain) put(m api.Mail) (plain, api.Errno) {
	if code := mail.Check(m); code != api.OK {
		return p, code
	}
	if p.total == math.MaxUint64 {
		return p, api.ErrEnd
	}
	return plain{p.total + 1, append(slices.Clone(p.all), m)}, api.OK
}

func (p plain) after(number uint64) (uint64, api.Mail, bool) {
	for at, m := range p.kept() {
		if own := p.first() + uint64(at); own > number {
			return own, m, true
		}
	}
	return 0, api.Mail{}, false
}

// numberOf: a number's bytes.
func numberOf(n uint64) string { return string(binary.BigEndian.AppendUint64(nil, n)) }

// textOf: a text's bytes.
func textOf(s string) string {
	return string(binary.BigEndian.AppendUint16(nil, uint16(len(s)))) + s
}

// counted: how many came, and how many are kept, as bytes.
func counted(total uint64, count int) string { return numberOf(total) + string([]byte{byte(count)}) }

// bytesOf: messages one behind the other, as bytes, whether they may be or not; the pairs are numbers.
func bytesOf(l ...api.Mail) string {
	s := ""
	for _, m := range l {
		s += numberOf(m.ID) + textOf(m.Shop) + textOf(m.Key) + string([]byte{byte(len(m.Head))})
		for _, one := range m.Head {
			s += textOf(one.Key) + string([]byte{one.Kind}) + numberOf(uint64(one.Num))
		}
		s += textOf(m.Body) + numberOf(m.Due) + string([]byte{m.Hops})
	}
	return s
}

func (p plain) bytes() string { return counted(p.total, len(p.kept())) + bytesOf(p.kept()...) }

// keyed: so many pairs of unlike keys.
func keyed(n int) []api.Pair {
	var l []api.Pair
	for at := range n {
		l = append(l, api.Pair{Key: strings.Repeat("k", at+1), Num: int64(at) - 2})
	}
	return l
}

// numbered: a message of that number, unlike that of each other number up to 256.
func numbered(n int) api.Mail {
	return api.Mail{ID: uint64(n) * 0x0102030405, Shop: "s", Key: "a.b", Head: keyed(n % 4), Body: strings.Repeat("b", n), Due: uint64(n % 3), Hops: uint8(n % 5)}
}

// greatest: a message that has at each edge the most.
func greatest() api.Mail {
	return api.Mail{ID: math.MaxUint64, Shop: strings.Repeat("s", 16), Key: strings.Repeat("k", 64), Head: keyed(8), Body: strings.Repeat("\xff", 256), Due: math.MaxUint64, Hops: 4}
}

// row: so many messages, of which none is like another.
func row(n int) plain {
	p := plain{total: uint64(n)}
	for at := range n {
		p.all = append(p.all, numbered(at+1))
	}
	return p
}

// late: 16 messages, ahead of which there came others, so many in all.
func late(total uint64) plain { return plain{total, row(16).all} }

// with: and these behind.
func (p plain) with(l ...api.Mail) plain {
	return plain{p.total + uint64(len(l)), append(slices.Clip(p.all), l...)}
}

// of: the rise that comes of putting these, or, where others came ahead of these, of reading their bytes.
func of(t *testing.T, p plain) Rise {
	t.Helper()
	var x Rise
	if p.total != uint64(len(p.all)) {
		i := octet.New(p.bytes())
		if x = Read(i); i.End() != api.OK {
			t.Fatalf("%d in all: %d", p.total, i.End())
		}
		return x
	}
	for _, m := range p.all {
		var code api.Errno
		if x, code = x.Put(m); code != api.OK {
			t.Fatalf("%+v: %d", m, code)
		}
	}
	return x
}

// alike: are two messages the same in all, a head without pairs being nil or empty?
func alike(a, b api.Mail) bool {
	if len(a.Head) == 0 && len(b.Head) == 0 {
		a.Head, b.Head = nil, nil
	}
	return reflect.DeepEqual(a, b)
}

// numbers: such as stand at an edge of those that are kept.
func (p plain) numbers() []uint64 {
	first := p.first()
	l := []uint64{0, 1, 2, 15, 16, 17, first - 2, first - 1, first, first + 1, first + 7, p.total - 1, p.total, p.total + 1, p.total + 2, p.total / 2}
	return append(l, math.MaxUint32, math.MaxInt64, 1<<63, math.MaxUint64-16, math.MaxUint64-15, math.MaxUint64-1, math.MaxUint64)
}

// walks: who asks for the number that was told last, from that one on, is told each that is kept, and wasn't told, once, in
// order.
func walks(t *testing.T, what string, x Rise, p plain, number uint64) {
	t.Helper()
	for {
		next, want, wanted := p.after(number)
		got, m, there := x.After(number)
		if got != next || there != wanted || !alike(m, want) {
			t.Fatalf("%s: After %d: %d, %+v, %v, wanted %d, %+v, %v", what, number, got, m, there, next, want, wanted)
		}
		if !there {
			return
		}
		number = got
	}
}

// tells: what a rise tells in all is that; as it is written it is read again, whatever stands behind.
func tells(t *testing.T, what string, x Rise, p plain) {
	t.Helper()
	if x.Total() != p.total || !slices.EqualFunc(x.All(), p.kept(), alike) {
		t.Fatalf("%s: %d in all, %+v, wanted %d, %+v", what, x.Total(), x.All(), p.total, p.kept())
	}
	for _, number := range p.numbers() {
		walks(t, what, x, p, number)
	}
	if size := len(bytesOf(p.kept()...)); x.Size() != size {
		t.Fatalf("%s: %d bytes, wanted %d", what, x.Size(), size)
	}
	s := x.Bytes()
	if s != p.bytes() {
		t.Fatalf("%s: bytes %x, wanted %x", what, s, p.bytes())
	}
	for _, behind := range []string{"", "\x00", "\xff\xff\xff"} {
		i := octet.New(s + behind)
		other := Read(i)
		if i.Err() != api.OK || i.Left() != len(behind) || other.Bytes() != s {
			t.Fatalf("%s: read again: %d, %d left, %x", what, i.Err(), i.Left(), other.Bytes())
		}
		if !Same(x, other) || !Same(other, x) || !Same(x, x) {
			t.Fatalf("%s: not the same as what was written", what)
		}
	}
}

// puts: the message is put, or not; the rise stays as it was.
func puts(t *testing.T, p plain, m api.Mail, wanted api.Errno) {
	t.Helper()
	x := of(t, p)
	more, code := x.Put(m)
	want, told := p.put(m)
	if code != wanted || told != wanted {
		t.Fatalf("Put of %+v to %d: %d, wanted %d", m, p.total, code, wanted)
	}
	tells(t, "Put", more, want)
	tells(t, "as it was", x, p)
}

// thrown: a message by chance, that now and then may not be.
func thrown(r *rand.Rand) api.Mail {
	m := api.Mail{ID: r.Uint64() >> r.Intn(64), Shop: "s", Head: keyed(r.Intn(9)), Body: strings.Repeat("b", r.Intn(20)), Due: uint64(r.Intn(3))}
	switch r.Intn(40) {
	case 0:
		m.Shop = "S"
	case 1:
		m.Hops = 5
	}
	return m
}

// P20.1, P20.3: long rows of messages, behind any that came ahead, held against the document's words behind each; a rise that
// others were made of is at the end as it was.
func TestRows(t *testing.T) {
	seen := map[api.Errno]int{}
	for seed := range int64(18) {
		r := rand.New(rand.NewSource(seed))
		begun := []plain{{}, row(3), row(15), late(1000), late(1<<63 - 50), late(math.MaxUint64 - 40)}[seed%6]
		all, plains := []Rise{of(t, begun)}, []plain{begun}
		for range 60 {
			at := len(all) - 1
			if r.Intn(15) == 0 {
				at = r.Intn(len(all))
			}
			m := thrown(r)
			x, code := all[at].Put(m)
			p, wanted := plains[at].put(mail.Copy(m))
			if code != wanted {
				t.Fatalf("Put of %+v to %d: %d, wanted %d", m, plains[at].total, code, wanted)
			}
			over(m.Head)
			tells(t, "behind it", x, p)
			seen[code]++
			all, plains = append(all, x), append(plains, p)
		}
		for at := range all {
			tells(t, "at the end", all[at], plains[at])
			other := r.Intn(len(all))
			if got := Same(all[at], all[other]); got != (plains[at].bytes() == plains[other].bytes()) {
				t.Fatalf("row %d, rises %d and %d: %v", seed, at, other, got)
			}
		}
	}
	for _, code := range []api.Errno{api.OK, api.ErrForm, api.ErrRange, api.ErrEnd} {
		if seen[code] == 0 {
			t.Errorf("no row comes to the error %d", code)
		}
	}
}
