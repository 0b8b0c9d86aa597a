package notes

import (
	"encoding/binary"
	"math"
	"math/rand"
	"slices"
	"strconv"
	"strings"
	"testing"

	"stairwell/api"
	"stairwell/octet"
)

// plain is notes as the document's words have them: how many came, and of these the last ones, as many as one likes; ahead of
// these there came others, if more came than that.
type plain struct {
	total uint64
	all   []Note
}

// kept: the last 32.
func (p plain) kept() []Note { return p.all[max(0, len(p.all)-32):] }

func (p plain) add(x Note) (plain, api.Errno) {
	if len(x.Text) > 64 {
		return p, api.ErrLong
	}
	if p.total == math.MaxUint64 {
		return p, api.ErrEnd
	}
	return plain{p.total + 1, append(slices.Clone(p.all), x)}, api.OK
}

// get: the one of that number.
func (p plain) get(number uint64) (Note, bool) {
	kept := p.kept()
	for at, one := range kept {
		if p.total-uint64(len(kept)-1-at) == number {
			return one, true
		}
	}
	return Note{}, false
}

// counted: how many came, and how many are kept, as bytes.
func counted(total uint64, count int) string {
	return string(append(binary.BigEndian.AppendUint64(nil, total), byte(count)))
}

// bytesOf: notes one behind the other, as bytes, whether they may be or not.
func bytesOf(l ...Note) string {
	var b []byte
	for _, one := range l {
		b = append(binary.BigEndian.AppendUint64(b, one.Tick), one.Kind)
		b = append(binary.BigEndian.AppendUint16(b, uint16(len(one.Text))), one.Text...)
	}
	return string(b)
}

func (p plain) bytes() string { return counted(p.total, len(p.kept())) + bytesOf(p.kept()...) }

// text: a text of so many bytes, any bytes.
func text(n int) string {
	b := make([]byte, n)
	for at := range b {
		b[at] = byte(at*at*5 + at*37 + 254)
	}
	return string(b)
}

// numbered: a note of that number, unlike that of each other number up to 256.
func numbered(n int) Note {
	return Note{Tick: uint64(n) * 0x0102030405, Kind: uint8(n), Text: strings.Repeat(strconv.Itoa(n), n%5)}
}

// row: so many notes, of which none is like another.
func row(n int) plain {
	p := plain{total: uint64(n)}
	for at := range n {
		p.all = append(p.all, numbered(at+1))
	}
	return p
}

// late: 32 notes, ahead of which there came others, so many in all.
func late(total uint64) plain { return plain{total, row(32).all} }

// of: the notes that come of adding these, or, where others came ahead of these, of reading their bytes.
func of(t *testing.T, p plain) Notes {
	t.Helper()
	var n Notes
	if p.total != uint64(len(p.all)) {
		i := octet.New(p.bytes())
		if n = Read(i); i.End() != api.OK {
			t.Fatalf("%d in all: %d", p.total, i.End())
		}
		return n
	}
	for _, one := range p.all {
		var code api.Errno
		if n, code = n.Add(one); code != api.OK {
			t.Fatalf("%+v: %d", one, code)
		}
	}
	return n
}

// numbers: such as stand at an edge of those that are kept.
func (p plain) numbers() []uint64 {
	first := p.total - uint64(len(p.kept())) + 1
	l := []uint64{0, 1, 2, 31, 32, 33, first - 2, first - 1, first, first + 1, first + 7, p.total - 1, p.total, p.total + 1, p.total + 2, p.total / 2}
	return append(l, math.MaxUint32, math.MaxInt64, 1<<63, math.MaxUint64-32, math.MaxUint64-31, math.MaxUint64-1, math.MaxUint64)
}

// tells: what notes tell in all is that; as they are written they are read again, whatever stands behind.
func tells(t *testing.T, what string, n Notes, p plain) {
	t.Helper()
	if n.Total() != p.total || !slices.Equal(n.All(), p.kept()) {
		t.Fatalf("%s: %d in all, %+v, wanted %d, %+v", what, n.Total(), n.All(), p.total, p.kept())
	}
	for _, number := range p.numbers() {
		got, there := n.Get(number)
		if want, wanted := p.get(number); got != want || there != wanted {
			t.Fatalf("%s: of the number %d: %+v, %v, wanted %+v, %v", what, number, got, there, want, wanted)
		}
	}
	s := n.Bytes()
	if s != p.bytes() {
		t.Fatalf("%s: bytes %x, wanted %x", what, s, p.bytes())
	}
	for _, behind := range []string{"", "\x00", "\xff\xff\xff"} {
		i := octet.New(s + behind)
		other := Read(i)
		if i.Err() != api.OK || i.Left() != len(behind) || other.Bytes() != s {
			t.Fatalf("%s: read again: %d, %d left, %x", what, i.Err(), i.Left(), other.Bytes())
		}
		if !Same(n, other) || !Same(other, n) || !Same(n, n) {
			t.Fatalf("%s: not the same as what was written", what)
		}
	}
}

// adds: the note is added, or not; the notes stay as they were.
func adds(t *testing.T, p plain, x Note, wanted api.Errno) {
	t.Helper()
	n := of(t, p)
	more, code := n.Add(x)
	want, told := p.add(x)
	if code != wanted || told != wanted {
		t.Fatalf("Add of %+v to %d: %d, wanted %d", x, p.total, code, wanted)
	}
	tells(t, "Add", more, want)
	tells(t, "as they were", n, p)
}

// thrown: a note by chance, that now and then is too long.
func thrown(r *rand.Rand) Note {
	x := Note{Tick: r.Uint64() >> r.Intn(64), Kind: uint8(r.Intn(256)), Text: text(r.Intn(65))}
	if r.Intn(20) == 0 {
		x.Text = text(65 + r.Intn(300))
	}
	return x
}

// P19.1, P19.3: long rows of notes, behind any that came ahead, held against the document's words behind each; notes that
// others were made of are at the end as they were.
func TestRows(t *testing.T) {
	seen := map[api.Errno]int{}
	for seed := range int64(24) {
		r := rand.New(rand.NewSource(seed))
		begun := []plain{{}, row(3), row(31), late(1000), late(1<<63 - 50), late(math.MaxUint64 - 60)}[seed%6]
		all, plains := []Notes{of(t, begun)}, []plain{begun}
		for range 150 {
			at := len(all) - 1
			if r.Intn(15) == 0 {
				at = r.Intn(len(all))
			}
			x := thrown(r)
			n, code := all[at].Add(x)
			p, wanted := plains[at].add(x)
			if code != wanted {
				t.Fatalf("Add of %+v to %d: %d, wanted %d", x, plains[at].total, code, wanted)
			}
			tells(t, "behind it", n, p)
			seen[code]++
			all, plains = append(all, n), append(plains, p)
		}
		for at := range all {
			tells(t, "at the end", all[at], plains[at])
			other := r.Intn(len(all))
			if got := Same(all[at], all[other]); got != (plains[at].bytes() == plains[other].bytes()) {
				t.Fatalf("row %d, notes %d and %d: %v", seed, at, other, got)
			}
		}
	}
	for _, code := range []api.Errno{api.OK, api.ErrLong, api.ErrEnd} {
		if seen[code] == 0 {
			t.Errorf("no row comes to the error %d", code)
		}
	}
}
