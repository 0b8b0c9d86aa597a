package notes

import (
	"math"
	"slices"
	"strings"
	"testing"

	"stairwell/api"
	"stairwell/octet"
)

// P19.1: the document's example.
func TestExample(t *testing.T) {
	n := of(t, row(40))
	if got, there := n.Get(9); got != numbered(9) || !there {
		t.Errorf("9: %+v, %v", got, there)
	}
	if got, there := n.Get(8); got != (Note{}) || there {
		t.Errorf("8: %+v, %v", got, there)
	}
}

// P19.1: the zero Notes has none.
func TestZero(t *testing.T) {
	var n Notes
	tells(t, "zero", n, plain{})
	if n.Bytes() != strings.Repeat("\x00", 9) {
		t.Errorf("%x", n.Bytes())
	}
	if !Same(Notes{}, Notes{}) {
		t.Error("two zero ones")
	}
	adds(t, plain{}, Note{}, api.OK)
	adds(t, plain{}, Note{Tick: math.MaxUint64, Kind: 255, Text: text(64)}, api.OK)
}

// P19.1, P19.3: so many notes added, one by one: each that is kept has its number, no other one.
func TestAdd(t *testing.T) {
	var n Notes
	for at := range 100 {
		var code api.Errno
		if n, code = n.Add(numbered(at + 1)); code != api.OK {
			t.Fatalf("%d: %d", at, code)
		}
		p := row(at + 1)
		tells(t, "added", n, p)
		for number := range uint64(105) {
			got, there := n.Get(number)
			wanted := number > 0 && number <= uint64(at+1) && number+32 > uint64(at+1)
			if there != wanted || wanted && got != numbered(int(number)) || !wanted && got != (Note{}) {
				t.Fatalf("%d of %d: %+v, %v", number, at+1, got, there)
			}
		}
	}
}

// P19.1: a Text of at most 64 bytes; others are too long, and nothing is noted.
func TestAddLong(t *testing.T) {
	for _, p := range []plain{{}, row(1), row(31), row(32), row(33), row(40), late(1 << 40)} {
		for _, length := range []int{0, 1, 2, 63, 64} {
			adds(t, p, Note{Tick: 5, Kind: 2, Text: text(length)}, api.OK)
		}
		for _, length := range []int{65, 66, 128, 255, 256, 257, 320, 65535, 65536, 65600} {
			adds(t, p, Note{Tick: 5, Kind: 2, Text: text(length)}, api.ErrLong)
		}
		for _, kind := range []uint8{0, 1, 6, 7, 127, 128, 255} {
			for _, tick := range []uint64{0, 1, 255, 256, 1 << 32, 1 << 63, math.MaxUint64} {
				adds(t, p, Note{Tick: tick, Kind: kind, Text: "\x00\xff"}, api.OK)
			}
		}
	}
	adds(t, plain{}, Note{Text: strings.Repeat("é", 33)}, api.ErrLong) // of 66 bytes, though of fewer letters
}

// P19.1: behind the last number there is none; that a Text is too long is told ahead of that.
func TestAddEnd(t *testing.T) {
	for _, total := range []uint64{math.MaxUint32, math.MaxInt64, math.MaxInt64 + 1, math.MaxUint64 - 40, math.MaxUint64 - 2, math.MaxUint64 - 1} {
		adds(t, late(total), numbered(77), api.OK)
	}
	full := late(math.MaxUint64)
	tells(t, "full", of(t, full), full)
	for _, length := range []int{0, 1, 64} {
		adds(t, full, Note{Tick: 1, Kind: 1, Text: text(length)}, api.ErrEnd)
	}
	for _, length := range []int{65, 300} {
		adds(t, full, Note{Tick: 1, Kind: 1, Text: text(length)}, api.ErrLong)
	}
	n, p := of(t, late(math.MaxUint64-3)), late(math.MaxUint64-3)
	for at, wanted := range []api.Errno{api.OK, api.OK, api.OK, api.ErrEnd, api.ErrEnd} {
		var code api.Errno
		if n, code = n.Add(numbered(50 + at)); code != wanted {
			t.Errorf("%d: %d, wanted %d", at, code, wanted)
		}
		p, _ = p.add(numbered(50 + at))
		tells(t, "at the end", n, p)
	}
}

// P19.1: two are the same, if as many came, and the same ones are kept.
func TestSame(t *testing.T) {
	one := Note{Tick: 3, Kind: 2, Text: "ab"}
	var l []plain
	for _, x := range []Note{one, {4, 2, "ab"}, {3, 3, "ab"}, {3, 2, "a"}, {3, 2, "ab\x00"}, {3, 2, "ac"}, {3, 2, ""}, {}} {
		l = append(l, plain{1, []Note{x}}, plain{2, []Note{x, one}}, plain{2, []Note{{}, x}}, plain{3, []Note{one, x, {}}})
		whole := row(32)
		whole.all[31] = x
		half := row(32)
		half.all[0] = x
		l = append(l, whole, half)
	}
	for _, n := range []int{0, 1, 2, 31, 32, 33, 34, 40, 64} {
		l = append(l, row(n))
	}
	for _, total := range []uint64{33, 34, 255, 256, 1 << 32, math.MaxUint64 - 1, math.MaxUint64} {
		l = append(l, late(total))
	}
	for _, a := range l {
		for _, b := range l {
			if got := Same(of(t, a), of(t, b)); got != (a.bytes() == b.bytes()) {
				t.Errorf("%d, %+v and %d, %+v: %v", a.total, a.kept(), b.total, b.kept(), got)
			}
		}
	}
	ahead := plain{39, append(row(7).all, row(32).all...)}
	if !Same(of(t, ahead), of(t, late(39))) { // what is no longer kept doesn't count
		t.Error("others came ahead")
	}
	tells(t, "others came ahead", of(t, ahead), late(39))
}

// refuses: of the bytes no notes are read, with that error, and nothing behind them.
func refuses(t *testing.T, s string, want api.Errno) {
	t.Helper()
	i := octet.New(s)
	for range 2 { // behind an error nothing is read, and the first one stays
		n := Read(i)
		if i.Err() != want || i.Left() != 0 {
			t.Fatalf("%x: %d, %d left, wanted %d", s, i.Err(), i.Left(), want)
		}
		if !Same(n, Notes{}) || n.Total() != 0 || len(n.All()) > 0 {
			t.Fatalf("%x: %d in all, %+v", s, n.Total(), n.All())
		}
	}
}

// P19.2: bytes that end at each place are too short.
func TestReadShort(t *testing.T) {
	for _, p := range []plain{{}, row(1), row(2), row(5), row(31), row(32), row(33), row(40), late(math.MaxUint64), {1, []Note{{1, 2, text(64)}}}} {
		s := p.bytes()
		for length := range len(s) {
			refuses(t, s[:length], api.ErrShort)
		}
	}
}

// P19.2: more than 32 are too many, whatever came in all, and whatever stands behind.
func TestReadMany(t *testing.T) {
	behind := []string{"", "\x00", bytesOf(row(32).all...), bytesOf(row(255).all...), bytesOf(Note{Text: text(65)}), text(40)}
	for count := 33; count < 256; count++ {
		for _, total := range []uint64{0, 1, 32, 33, uint64(count) - 1, uint64(count), uint64(count) + 1, 255, 256, math.MaxUint64} {
			for _, s := range behind {
				refuses(t, counted(total, count)+s, api.ErrMany)
			}
		}
	}
}

// P19.2: as many are kept as came, or 32, if more came; that others are is told ahead of what stands behind.
func TestReadRange(t *testing.T) {
	totals := []uint64{255, 256, 256 + 32, 1 << 32, 1<<32 + 5, 1 << 63, math.MaxUint64 - 1, math.MaxUint64}
	for total := range uint64(70) {
		totals = append(totals, total)
	}
	for _, total := range totals {
		for count := range 33 {
			p := row(count)
			p.total = total
			if count == int(min(total, 32)) {
				tells(t, "read", of(t, p), p)
				continue
			}
			s := p.bytes()
			for _, length := range []int{9, 10, len(s) - 1, len(s)} {
				refuses(t, s[:min(max(length, 9), len(s))], api.ErrRange)
			}
			refuses(t, counted(total, count)+bytesOf(Note{Text: text(65)}), api.ErrRange)
			refuses(t, s+bytesOf(row(33).all...), api.ErrRange)
		}
	}
}

// P19.2: a Text of more than 64 bytes is too long, which is told ahead of whether it is there; of several errors the first.
func TestReadLong(t *testing.T) {
	for _, length := range []int{64, 65, 66, 255, 256, 320, 65535} {
		for _, count := range []int{1, 2, 32} {
			for at := range count {
				l := slices.Clone(row(count).all)
				l[at].Text = text(length)
				s := counted(uint64(count), count)
				end := len(s) + len(bytesOf(l[:at]...)) + 8 + 1 + 2
				s += bytesOf(l...)
				refuses(t, s[:end-1], api.ErrShort)
				if length == 64 {
					refuses(t, s[:end], api.ErrShort)
					tells(t, "64 bytes", of(t, plain{uint64(count), l}), plain{uint64(count), l})
					continue
				}
				for _, cut := range []int{end, end + 1, len(s) - 1, len(s)} {
					refuses(t, s[:cut], api.ErrLong)
				}
				refuses(t, s+"\x00\x00", api.ErrLong)
			}
		}
	}
}

// P19.2: a reader that met an error ahead keeps it, and nothing is read; of none at all nothing.
func TestReadBehindError(t *testing.T) {
	for _, code := range []api.Errno{api.ErrShort, api.ErrForm, api.ErrMany, api.ErrSum, api.ErrNil} {
		i := octet.New(row(3).bytes())
		i.Fail(code)
		tells(t, "behind an error", Read(i), plain{})
		if i.Err() != code {
			t.Errorf("%d, wanted %d", i.Err(), code)
		}
	}
	i := octet.New(row(3).bytes())
	i.Raw(1 << 20)
	tells(t, "behind bytes that weren't there", Read(i), plain{})
	if i.Err() != api.ErrShort {
		t.Errorf("%d", i.Err())
	}
	tells(t, "of nil", Read(nil), plain{})
}

// P19.2, P19.3: several, one behind the other, are read as they were.
func TestReadRow(t *testing.T) {
	l := []plain{row(40), {}, row(1), late(math.MaxUint64), row(31), row(32), {}, row(33)}
	s := "ahead"
	for _, p := range l {
		s += of(t, p).Bytes()
	}
	i := octet.New(s)
	i.Raw(len("ahead"))
	for _, p := range l {
		tells(t, "in a row", Read(i), p)
	}
	if i.End() != api.OK {
		t.Errorf("%d, %d left", i.End(), i.Left())
	}
}

// told: the notes of such bytes, as the document's words have it; what is left; the error.
func told(s string) (plain, int, api.Errno) {
	i := octet.New(s)
	p := plain{total: i.Num(8)}
	count := i.Num(1)
	if i.Err() != api.OK {
		return plain{}, 0, i.Err()
	}
	if count > 32 {
		return plain{}, 0, api.ErrMany
	}
	if p.total <= 32 && count != p.total || p.total > 32 && count != 32 {
		return plain{}, 0, api.ErrRange
	}
	for range count {
		one := Note{Tick: i.Num(8), Kind: uint8(i.Num(1)), Text: i.Text(64)}
		if i.Err() != api.OK {
			return plain{}, 0, i.Err()
		}
		p.all = append(p.all, one)
	}
	return p, i.Left(), api.OK
}

// P19.2, P19.3: each byte turned to each other one; what is read of it would be written so.
func TestReadAnyBytes(t *testing.T) {
	behind := bytesOf(Note{1, 2, "a"}, Note{3, 4, ""})
	for _, p := range []plain{{}, row(1), row(3), late(33), {2, []Note{{1, 2, text(64)}, {3, 4, "\x00\x01"}}}} {
		s := p.bytes() + behind
		for at := range min(len(s), 100) {
			for b := range 256 {
				turned := s[:at] + string([]byte{byte(b)}) + s[at+1:]
				want, left, code := told(turned)
				if code != api.OK {
					refuses(t, turned, code)
					continue
				}
				i := octet.New(turned)
				n := Read(i)
				if i.Err() != api.OK || i.Left() != left || n.Bytes() != turned[:len(turned)-left] {
					t.Fatalf("%x: %d, %d left, %x", turned, i.Err(), i.Left(), n.Bytes())
				}
				tells(t, "turned", n, want)
			}
		}
	}
}

// Memory: of one others are made, each with one more: none has the other's, however much room there is.
func TestStay(t *testing.T) {
	for n := range 70 {
		p := row(n)
		was, read := of(t, p), Read(octet.New(p.bytes()))
		for _, from := range []Notes{was, read} {
			one, _ := from.Add(numbered(201))
			other, _ := from.Add(numbered(202))
			more, _ := one.Add(numbered(203))
			third, _ := one.Add(numbered(204))
			tells(t, "was", from, p)
			tells(t, "one", one, plain{uint64(n + 1), append(slices.Clip(p.all), numbered(201))})
			tells(t, "other", other, plain{uint64(n + 1), append(slices.Clip(p.all), numbered(202))})
			tells(t, "more", more, plain{uint64(n + 2), append(slices.Clip(p.all), numbered(201), numbered(203))})
			tells(t, "third", third, plain{uint64(n + 2), append(slices.Clip(p.all), numbered(201), numbered(204))})
		}
	}
}

// Memory: what All gave may be written to, its spare room, too.
func TestMemory(t *testing.T) {
	for _, p := range []plain{{}, row(1), row(31), row(32), row(40)} {
		n := of(t, p)
		more, _ := n.Add(numbered(99))
		all, other := n.All(), n.All()
		for at := range all[:cap(all)] {
			all[:cap(all)][at] = Note{Text: "over"}
		}
		_ = append(all, Note{Text: "over"})
		if !slices.Equal(other, p.kept()) {
			t.Errorf("%+v", other)
		}
		tells(t, "written over", n, p)
		tells(t, "made ahead", more, plain{p.total + 1, append(slices.Clip(p.all), numbered(99))})
	}
}
