package rise

import (
	"math"
	"slices"
	"strings"
	"testing"

	"stairwell/api"
	"stairwell/mail"
	"stairwell/octet"
)

// letters: a text of so many of one letter.
func letters(letter string, n int) string { return strings.Repeat(letter, n) }

// over: a head is written over, its spare room, too.
func over(h []api.Pair) {
	for at := range h[:cap(h)] {
		h[:cap(h)][at] = api.Pair{Key: "over"}
	}
}

// P20.1: the document's example.
func TestExample(t *testing.T) {
	x := of(t, row(20))
	if number, m, there := x.After(0); number != 5 || !there || !alike(m, numbered(5)) {
		t.Errorf("After 0: %d, %+v, %v", number, m, there)
	}
	if number, m, there := x.After(20); number != 0 || there || !alike(m, api.Mail{}) {
		t.Errorf("After 20: %d, %+v, %v", number, m, there)
	}
}

// P20.1: the zero rise has none.
func TestZero(t *testing.T) {
	var x Rise
	tells(t, "zero", x, plain{})
	if x.Bytes() != letters("\x00", 9) || x.Size() != 0 {
		t.Errorf("%x, %d", x.Bytes(), x.Size())
	}
	if !Same(Rise{}, Rise{}) {
		t.Error("two zero ones")
	}
	puts(t, plain{}, api.Mail{Shop: "s"}, api.OK)
	puts(t, plain{}, greatest(), api.OK)
}

// P20.1, P20.3: so many messages put, one by one: each that is kept has its number, no other one; who asks on is told all that
// are kept, wherever he was.
func TestPut(t *testing.T) {
	var x Rise
	for at := range 50 {
		var code api.Errno
		if x, code = x.Put(numbered(at + 1)); code != api.OK {
			t.Fatalf("%d: %d", at, code)
		}
		tells(t, "put", x, row(at+1))
		first := max(1, at+1-15)
		for number := range at + 4 {
			got, m, there := x.After(uint64(number))
			wanted := max(first, number+1)
			if wanted > at+1 {
				wanted = 0
			}
			if got != uint64(wanted) || there != (wanted > 0) || there && !alike(m, numbered(wanted)) || !there && !alike(m, api.Mail{}) {
				t.Fatalf("After %d of %d: %d, %+v, %v", number, at+1, got, m, there)
			}
			walks(t, "from there on", x, row(at+1), uint64(number))
		}
	}
}

// P20.3: who asks now and then, while others are put, is told each that is kept then, and wasn't told, once, in order.
func TestAsking(t *testing.T) {
	for _, begun := range []plain{{}, row(20), late(1 << 40)} {
		for every := 1; every < 40; every++ { // behind so many that are put all are asked for
			x, p, last := of(t, begun), begun, uint64(0)
			var told []uint64
			for at := range 80 {
				m := numbered(at + 1)
				x, _ = x.Put(m)
				p = p.with(m)
				for (at+1)%every == 0 {
					number, _, there := x.After(last)
					if !there {
						break
					}
					told, last = append(told, number), number
				}
			}
			var want []uint64
			for put := every; put <= 80; put += every { // of the numbers behind begun's total
				came := begun.total + uint64(put)
				first := came - min(came, 16) + 1
				if len(want) > 0 {
					first = max(first, want[len(want)-1]+1)
				}
				for number := first; number <= came; number++ {
					want = append(want, number)
				}
			}
			if !slices.Equal(told, want) {
				t.Fatalf("%d in all, every %d: %d, wanted %d", begun.total, every, told, want)
			}
			tells(t, "in the end", x, p)
		}
	}
}

// wrongs: messages that may not be, and what is said of them.
func wrongs() map[api.Errno]api.Mail {
	return map[api.Errno]api.Mail{
		api.ErrEmpty: {},
		api.ErrForm:  {Shop: "s", Key: "a..b"},
		api.ErrMany:  {Shop: "s", Head: keyed(9)},
		api.ErrThere: {Shop: "s", Head: append(keyed(2), keyed(1)...)},
		api.ErrKind:  {Shop: "s", Head: []api.Pair{{Key: "k", Kind: 3}}},
		api.ErrLong:  {Shop: "s", Body: letters("b", 257)},
		api.ErrRange: {Shop: "s", Hops: 5},
	}
}

// P20.1: messages that may not be aren't put; the first of what is wrong is told.
func TestPutWrong(t *testing.T) {
	for _, p := range []plain{{}, row(1), row(15), row(16), row(17), row(20), late(1 << 40), late(math.MaxUint64)} {
		for code, m := range wrongs() {
			puts(t, p, m, code)
		}
		puts(t, p, api.Mail{Shop: "S", Key: "*", Head: keyed(9), Body: letters("b", 257), Hops: 5}, api.ErrForm)
		puts(t, p, api.Mail{Shop: "s", Head: keyed(9), Body: letters("b", 257), Hops: 5}, api.ErrMany)
		puts(t, p, api.Mail{Shop: "s", Body: letters("b", 257), Hops: 5}, api.ErrLong)
		if p.total < math.MaxUint64 {
			puts(t, p, api.Mail{Shop: "s"}, api.OK)
			puts(t, p, greatest(), api.OK)
		}
	}
}

// P20.1: behind the last number there is none; what is wrong with a message is told ahead of that.
func TestPutEnd(t *testing.T) {
	for _, total := range []uint64{math.MaxUint32, math.MaxInt64, math.MaxInt64 + 1, math.MaxUint64 - 20, math.MaxUint64 - 2, math.MaxUint64 - 1} {
		puts(t, late(total), numbered(77), api.OK)
	}
	full := late(math.MaxUint64)
	tells(t, "full", of(t, full), full)
	puts(t, full, api.Mail{Shop: "s"}, api.ErrEnd)
	puts(t, full, greatest(), api.ErrEnd)
	x, p := of(t, late(math.MaxUint64-3)), late(math.MaxUint64-3)
	for at, wanted := range []api.Errno{api.OK, api.OK, api.OK, api.ErrEnd, api.ErrEnd} {
		var code api.Errno
		if x, code = x.Put(numbered(50 + at)); code != wanted {
			t.Errorf("%d: %d, wanted %d", at, code, wanted)
		}
		p, _ = p.put(numbered(50 + at))
		tells(t, "at the end", x, p)
	}
}

// P20.1: how many bytes those that are kept have together, what is no longer kept not among them.
func TestSize(t *testing.T) {
	least := api.Mail{Shop: "a"}
	for n, want := range map[int]int{0: 0, 1: 25, 2: 50, 15: 375, 16: 400, 17: 400, 40: 400} {
		var p plain
		for range n {
			p = p.with(least)
		}
		if got := of(t, p).Size(); got != want {
			t.Errorf("%d: %d, wanted %d", n, got, want)
		}
	}
	great := plain{}.with(greatest())
	size := mail.Size(greatest())
	for n := range 18 {
		if got, want := of(t, great).Size(), size*max(0, 1-n/16)+25*min(n, 16); got != want {
			t.Errorf("%d behind it: %d, wanted %d", n, got, want)
		}
		great = great.with(least)
	}
}

// P20.1: two are the same, if as many came, and the same ones are kept.
func TestSame(t *testing.T) {
	full := api.Mail{ID: 4, Shop: "s", Key: "k", Head: keyed(2), Body: "b", Due: 5, Hops: 1}
	var l []plain
	for _, change := range []func(*api.Mail){
		func(m *api.Mail) {},
		func(m *api.Mail) { m.ID = 5 },
		func(m *api.Mail) { m.Shop = "t" },
		func(m *api.Mail) { m.Key = "" },
		func(m *api.Mail) { m.Head = keyed(1) },
		func(m *api.Mail) { m.Head = nil },
		func(m *api.Mail) { m.Head[1].Num = 9 },
		func(m *api.Mail) { m.Body = "c" },
		func(m *api.Mail) { m.Due = 6 },
		func(m *api.Mail) { m.Hops = 2 },
	} {
		m := mail.Copy(full)
		change(&m)
		l = append(l, plain{}.with(m), plain{}.with(m, numbered(1)), plain{}.with(numbered(1), m), row(15).with(m), plain{}.with(m).with(row(15).all...))
	}
	for _, n := range []int{0, 1, 2, 15, 16, 17, 20, 40} {
		l = append(l, row(n))
	}
	for _, total := range []uint64{17, 18, 255, 256, 1 << 32, math.MaxUint64 - 1, math.MaxUint64} {
		l = append(l, late(total))
	}
	for _, a := range l {
		for _, b := range l {
			if got := Same(of(t, a), of(t, b)); got != (a.bytes() == b.bytes()) {
				t.Errorf("%d, %+v and %d, %+v: %v", a.total, a.kept(), b.total, b.kept(), got)
			}
		}
	}
	ahead := row(7).with(row(16).all...)
	if !Same(of(t, ahead), of(t, late(23))) { // what is no longer kept doesn't count
		t.Error("others came ahead")
	}
	tells(t, "others came ahead", of(t, ahead), late(23))
	if !Same(of(t, plain{}.with(api.Mail{Shop: "s"})), of(t, plain{}.with(api.Mail{Shop: "s", Head: []api.Pair{}}))) {
		t.Error("a head without pairs")
	}
}

// refuses: of the bytes no rise is read, with that error, and nothing behind them.
func refuses(t *testing.T, s string, want api.Errno) {
	t.Helper()
	i := octet.New(s)
	for range 2 { // behind an error nothing is read, and the first one stays
		x := Read(i)
		if i.Err() != want || i.Left() != 0 {
			t.Fatalf("%x: %d, %d left, wanted %d", s, i.Err(), i.Left(), want)
		}
		if !Same(x, Rise{}) || x.Total() != 0 || len(x.All()) > 0 {
			t.Fatalf("%x: %d in all, %+v", s, x.Total(), x.All())
		}
	}
}

// P20.2: bytes that end at each place are too short.
func TestReadShort(t *testing.T) {
	for _, p := range []plain{{}, row(1), row(2), row(15), row(16), row(17), row(20), late(math.MaxUint64), plain{}.with(greatest())} {
		s := p.bytes()
		for length := range len(s) {
			refuses(t, s[:length], api.ErrShort)
		}
	}
}

// P20.2: more than 16 are too many, whatever came in all, and whatever stands behind.
func TestReadMany(t *testing.T) {
	behind := []string{"", "\x00", bytesOf(row(16).all...), bytesOf(row(60).all...), bytesOf(api.Mail{}), letters("\xff", 40)}
	for count := 17; count < 256; count++ {
		for _, total := range []uint64{0, 1, 16, 17, uint64(count) - 1, uint64(count), uint64(count) + 1, 255, 256, math.MaxUint64} {
			for _, s := range behind {
				refuses(t, counted(total, count)+s, api.ErrMany)
			}
		}
	}
}

// P20.2: as many are kept as came, or 16, if more came; that others are is told ahead of what stands behind.
func TestReadRange(t *testing.T) {
	totals := []uint64{255, 256, 256 + 16, 1 << 32, 1<<32 + 5, 1 << 63, math.MaxUint64 - 1, math.MaxUint64}
	for total := range uint64(40) {
		totals = append(totals, total)
	}
	for _, total := range totals {
		for count := range 17 {
			p := row(count)
			p.total = total
			if count == int(min(total, 16)) {
				tells(t, "read", of(t, p), p)
				continue
			}
			s := p.bytes()
			for _, length := range []int{9, 10, len(s) - 1, len(s)} {
				refuses(t, s[:min(max(length, 9), len(s))], api.ErrRange)
			}
			for _, m := range wrongs() {
				refuses(t, counted(total, count)+bytesOf(m), api.ErrRange)
			}
			refuses(t, s+bytesOf(row(17).all...), api.ErrRange)
		}
	}
}

// P20.2: what is wrong with a message is told, wherever it stands, and of several the first one's.
func TestReadWrong(t *testing.T) {
	for code, m := range wrongs() {
		for _, count := range []int{1, 2, 15, 16} {
			for at := range count {
				p := row(count)
				p.all[at] = m
				s := p.bytes()
				refuses(t, s, code)
				refuses(t, s+"\x00", code)
				own := len(counted(0, 0)) + len(bytesOf(p.all[:at+1]...))
				refuses(t, s[:own], code) // ahead of those that aren't there
				for _, second := range wrongs() {
					if at+1 < count {
						p.all[count-1] = second
						refuses(t, p.bytes(), code)
					}
				}
			}
		}
	}
	for _, c := range []struct {
		m    api.Mail
		text string // at whose length's end it is told that it is too long
	}{
		{api.Mail{Shop: letters("S", 17)}, letters("S", 17)},
		{api.Mail{Shop: "A", Key: letters("K", 65)}, letters("K", 65)},
		{api.Mail{Shop: "A", Key: "*", Body: letters("B", 257), Hops: 5}, letters("B", 257)},
	} {
		s := row(3).with(c.m).bytes()
		end := strings.Index(s, c.text)
		refuses(t, s, api.ErrLong)
		refuses(t, s[:end], api.ErrLong)
		refuses(t, s[:end-1], api.ErrShort)
	}
	s := plain{}.with(api.Mail{Shop: "A", Key: "*", Hops: 5}).bytes()
	refuses(t, s, api.ErrForm)
	refuses(t, s[:len(s)-1], api.ErrShort) // layer 13 looks at a message behind all of its bytes
}

// P20.2: a reader that met an error ahead keeps it, and nothing is read; of none at all nothing.
func TestReadBehindError(t *testing.T) {
	for _, code := range []api.Errno{api.ErrShort, api.ErrForm, api.ErrMany, api.ErrSum, api.ErrNil} {
		i := octet.New(row(3).bytes())
		i.Fail(code)
		tells(t, "behind an error", Read(i), plain{})
		if i.Err() != code {
			t.Errorf("%d, wanted %d", i.Err(), code)
		}
	}
	i := octet.New(row(3).bytes())
	i.Raw(1 << 20)
	tells(t, "behind bytes that weren't there", Read(i), plain{})
	if i.Err() != api.ErrShort {
		t.Errorf("%d", i.Err())
	}
	tells(t, "of nil", Read(nil), plain{})
}

// P20.2: several, one behind the other, are read as they were.
func TestReadRow(t *testing.T) {
	l := []plain{row(20), {}, row(1), late(math.MaxUint64), row(15), row(16), {}, row(17)}
	s := "ahead"
	for _, p := range l {
		s += of(t, p).Bytes()
	}
	i := octet.New(s)
	i.Raw(len("ahead"))
	for _, p := range l {
		tells(t, "in a row", Read(i), p)
	}
	if i.End() != api.OK {
		t.Errorf("%d, %d left", i.End(), i.Left())
	}
}

// told: the rise of such bytes, as the document's words have it, messages as layer 13 reads them; what is left; the error.
func told(s string) (plain, int, api.Errno) {
	i := octet.New(s)
	p := plain{total: i.Num(8)}
	count := i.Num(1)
	if i.Err() != api.OK {
		return plain{}, 0, i.Err()
	}
	if count > 16 {
		return plain{}, 0, api.ErrMany
	}
	if p.total <= 16 && count != p.total || p.total > 16 && count != 16 {
		return plain{}, 0, api.ErrRange
	}
	for range count {
		m := mail.Read(i)
		if i.Err() != api.OK {
			return plain{}, 0, i.Err()
		}
		p.all = append(p.all, m)
	}
	return p, i.Left(), api.OK
}

// P20.2: each byte turned to each other one; what is read of it would be written so.
func TestReadAnyBytes(t *testing.T) {
	behind := bytesOf(api.Mail{Shop: "b"})
	for _, p := range []plain{{}, row(1), row(2), late(17)} {
		s := p.bytes() + behind
		for at := range min(len(s), 90) {
			for b := range 256 {
				turned := s[:at] + string([]byte{byte(b)}) + s[at+1:]
				want, left, code := told(turned)
				if code != api.OK {
					refuses(t, turned, code)
					continue
				}
				i := octet.New(turned)
				x := Read(i)
				bytes := turned[:len(turned)-left]
				if i.Err() != api.OK || i.Left() != left || x.Bytes() != bytes {
					t.Fatalf("%x: %d, %d left, %x", turned, i.Err(), i.Left(), x.Bytes())
				}
				if x.Total() != want.total || !slices.EqualFunc(x.All(), want.all, alike) {
					t.Fatalf("%x: %d, %+v, wanted %d, %+v", turned, x.Total(), x.All(), want.total, want.all)
				}
			}
		}
	}
}

// Memory: of one others are made, each with one more: none has the other's, however much room there is.
func TestStay(t *testing.T) {
	for n := range 36 {
		p := row(n)
		was, read := of(t, p), Read(octet.New(p.bytes()))
		for _, from := range []Rise{was, read} {
			one, _ := from.Put(numbered(201))
			other, _ := from.Put(numbered(202))
			more, _ := one.Put(numbered(203))
			third, _ := one.Put(numbered(204))
			tells(t, "was", from, p)
			tells(t, "one", one, p.with(numbered(201)))
			tells(t, "other", other, p.with(numbered(202)))
			tells(t, "more", more, p.with(numbered(201), numbered(203)))
			tells(t, "third", third, p.with(numbered(201), numbered(204)))
		}
	}
}

// Memory: what is handed in is neither changed nor kept, its head's spare room included.
func TestHandedIn(t *testing.T) {
	for _, p := range []plain{{}, row(15), row(16), row(20), late(math.MaxUint64)} {
		for pairs := range 9 {
			spare := append(keyed(pairs), api.Pair{Key: "spare"}, api.Pair{Key: "room"})
			was := slices.Clone(spare)
			m := api.Mail{ID: 9, Shop: "s", Head: spare[:pairs]}
			want, _ := p.put(mail.Copy(m))
			x, _ := of(t, p).Put(m)
			more, _ := x.Put(m)
			x.After(0)
			x.All()
			x.Bytes()
			if !slices.Equal(spare, was) {
				t.Fatalf("%+v, wanted %+v", spare, was)
			}
			twice, _ := want.put(mail.Copy(m))
			over(m.Head)
			tells(t, "written over", x, want)
			tells(t, "put again", more, twice)
		}
	}
}

// Memory: what All and After gave may be written to, their heads and their spare room, too.
func TestHandedOut(t *testing.T) {
	for _, p := range []plain{{}, row(1), row(15), row(16), row(20), plain{}.with(greatest())} {
		x, read := of(t, p), Read(octet.New(p.bytes()))
		for _, from := range []Rise{x, read} {
			more, _ := from.Put(numbered(99))
			all, other := from.All(), from.All()
			for number := range uint64(22) {
				_, one, _ := from.After(number)
				_, two, _ := from.After(number)
				over(one.Head)
				if _, want, _ := p.after(number); !alike(two, want) {
					t.Errorf("After %d: %+v", number, two)
				}
			}
			for at := range all {
				over(all[at].Head)
				all[at].Body = "over"
			}
			_ = append(all, api.Mail{Body: "over"})
			if !slices.EqualFunc(other, p.kept(), alike) {
				t.Errorf("%+v", other)
			}
			tells(t, "written over", from, p)
			tells(t, "made ahead", more, p.with(numbered(99)))
		}
	}
}
