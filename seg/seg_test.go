package seg

import (
	"encoding/binary"
	"hash/crc32"
	"math/rand"
	"slices"
	"strings"
	"testing"

	"stairwell/api"
)

const most = 131072

// long: a text of so many bytes, any bytes.
func long(n int) string {
	b := make([]byte, n)
	for at := range b {
		b[at] = byte(at*at*5 + at*37 + 254)
	}
	return string(b)
}

// letters: a text of so many of one letter.
func letters(letter string, n int) string { return strings.Repeat(letter, n) }

// noughts: so many.
func noughts(n int) string { return letters("\x00", n) }

// four: a number's four bytes.
func four(n uint32) string { return string(binary.BigEndian.AppendUint32(nil, n)) }

// plain: as records stand, whether they may be or not, as the document's words have it.
func plain(records ...string) string {
	all := ""
	for _, record := range records {
		front := four(uint32(len(record))) + record
		all += front + four(crc32.ChecksumIEEE([]byte(front))) + "\xa5"
	}
	return all
}

// told: the record at the front as the document's words have it.
func told(s string) (string, int, api.Errno) {
	if len(s) < 4 {
		return "", 0, api.ErrShort
	}
	length := int64(binary.BigEndian.Uint32([]byte(s)))
	if length == 0 {
		return "", 0, api.ErrEmpty
	}
	if length > most {
		return "", 0, api.ErrLong
	}
	size := length + 9
	if int64(len(s)) < size {
		return "", 0, api.ErrShort
	}
	if s[size-1] != 165 {
		return "", 0, api.ErrForm
	}
	if four(crc32.ChecksumIEEE([]byte(s[:4+length]))) != s[4+length:8+length] {
		return "", 0, api.ErrSum
	}
	return s[4 : 4+length], int(size), api.OK
}

// short: a text for a message of a test.
func short(s string) string { return s[:min(len(s), 80)] }

// next: what stands at the front.
func next(t *testing.T, s, want string, size int, wanted api.Errno) {
	t.Helper()
	if got, n, code := Next(s); got != want || n != size || code != wanted {
		t.Errorf("%d bytes, %x: %x, %d, %d, wanted %x, %d, %d", len(s), short(s), short(got), n, code, short(want), size, wanted)
	}
}

// refuses: nothing stands at the front, with that error.
func refuses(t *testing.T, s string, wanted api.Errno) {
	t.Helper()
	next(t, s, "", 0, wanted)
	scans(t, s, nil, 0)
}

// scans: all records that stand at the front, and as how many bytes.
func scans(t *testing.T, s string, want []string, size int) {
	t.Helper()
	if got, n := Scan(s); !slices.Equal(got, want) || n != size {
		t.Errorf("%d bytes, %x: %d records, %d bytes, wanted %d, %d", len(s), short(s), len(got), n, len(want), size)
	}
}

// stands: records have these bytes; what isn't a record makes an error of all.
func stands(t *testing.T, records []string, want string, wanted api.Errno) {
	t.Helper()
	if got, code := Bytes(records...); got != want || code != wanted {
		t.Errorf("%d records: %x, %d, wanted %x, %d", len(records), short(got), code, short(want), wanted)
	}
}

// some: records of many lengths, and of bytes that could be taken for something else.
func some() []string {
	l := []string{"a", "\x00", "\xa5", "ab", "\x00\x00", noughts(9), letters("\xa5", 9), plain("x"), plain("x")[:9], four(1) + "\xa5", noughts(300), letters("\xa5", 300)}
	for _, n := range []int{3, 4, 8, 9, 10, 63, 64, 65, 165, 254, 255, 256, 257, 258} {
		l = append(l, long(n))
	}
	return l
}

// P16.1: as how many bytes a record stands, of any text.
func TestSize(t *testing.T) {
	if Most != most {
		t.Errorf("most: %d", Most)
	}
	for _, n := range []int{0, 1, 2, 3, 4, 9, 255, 256, 65535, 65536, most - 1, most, most + 1, 1 << 20} {
		if got := Size(long(n)); got != n+9 {
			t.Errorf("%d bytes: %d", n, got)
		}
	}
}

// P16.1, P16.2: bytes that are known, the document's example among them.
func TestKnown(t *testing.T) {
	for _, c := range []struct{ record, want string }{
		{"ab", "\x00\x00\x00\x02ab" + four(0x6D1C2F5F) + "\xa5"},
		{"a", "\x00\x00\x00\x01a" + four(0xE58C9792) + "\xa5"},
		{long(0x0102), "\x00\x00\x01\x02" + long(0x0102) + four(crc32.ChecksumIEEE([]byte("\x00\x00\x01\x02"+long(0x0102)))) + "\xa5"},
	} {
		stands(t, []string{c.record}, c.want, api.OK)
		next(t, c.want, c.record, len(c.want), api.OK)
	}
	if s, _ := Bytes("ab"); len(s) != 11 || s[:6] != "\x00\x00\x00\x02ab" || s[10] != 0xA5 {
		t.Errorf("the example: %x", s)
	}
}

// P16.1, P16.2: each record stands as the document says, alone and with others, and is told as it was, whatever stands behind.
func TestRight(t *testing.T) {
	stands(t, nil, "", api.OK)
	stands(t, []string{}, "", api.OK)
	for _, record := range append(some(), long(65535), long(65536), long(most-1), long(most), noughts(most), letters("\xa5", most)) {
		s := plain(record)
		stands(t, []string{record}, s, api.OK)
		if got := Size(record); got != len(s) {
			t.Errorf("%d bytes: size %d, wanted %d", len(record), got, len(s))
		}
		for _, behind := range []string{"", "\x00", noughts(100), "\xa5", letters("\xff", 20), s} {
			next(t, s+behind, record, len(s), api.OK)
		}
		scans(t, s, []string{record}, len(s))
		stands(t, []string{record, "b", record}, s+plain("b")+s, api.OK)
	}
	l := some()
	stands(t, l, plain(l...), api.OK)
	scans(t, plain(l...), l, len(plain(l...)))
	stands(t, make([]string, 0), "", api.OK)
}

// P16.1: of the first one that isn't a record the error is told, and no bytes, wherever it is.
func TestWrong(t *testing.T) {
	longer := long(most + 1)
	for _, c := range []struct {
		records []string
		want    api.Errno
	}{
		{[]string{""}, api.ErrEmpty},
		{[]string{longer}, api.ErrLong},
		{[]string{noughts(most + 1)}, api.ErrLong},
		{[]string{long(2 * most)}, api.ErrLong},
		{[]string{"", ""}, api.ErrEmpty},
		{[]string{"", longer}, api.ErrEmpty},
		{[]string{longer, ""}, api.ErrLong},
		{[]string{"a", ""}, api.ErrEmpty},
		{[]string{"", "a"}, api.ErrEmpty},
		{[]string{"a", longer}, api.ErrLong},
		{[]string{longer, "a"}, api.ErrLong},
		{[]string{"a", "b", "", longer}, api.ErrEmpty},
		{[]string{"a", long(most), longer, "", "c"}, api.ErrLong},
	} {
		stands(t, c.records, "", c.want)
	}
	for at := range 20 {
		l := slices.Clone(some()[:20])
		l[at] = ""
		stands(t, l, "", api.ErrEmpty)
	}
}

// P16.2: at each beginning of a record's bytes it is too short.
func TestNextShort(t *testing.T) {
	for _, record := range some() {
		s := plain(record)
		for length := range len(s) {
			refuses(t, s[:length], api.ErrShort)
		}
	}
	s := plain(long(most))
	for _, length := range []int{4, 5, 65536, most, most + 4, most + 5, most + 7, most + 8} {
		refuses(t, s[:length], api.ErrShort)
	}
	for length := range 4 {
		for _, s := range []string{noughts(4), letters("\xff", 4), four(most), four(most + 1)} {
			refuses(t, s[:length], api.ErrShort)
		}
	}
}

// P16.2: a length of 0, and one above Most, are told ahead of all that is behind, whether that is there or not.
func TestNextLength(t *testing.T) {
	for _, c := range []struct {
		length uint32
		want   api.Errno
	}{
		{0, api.ErrEmpty}, {1, api.ErrShort}, {most - 1, api.ErrShort}, {most, api.ErrShort}, {most + 1, api.ErrLong}, {most + 2, api.ErrLong},
		{1 << 18, api.ErrLong}, {1 << 24, api.ErrLong}, {1<<31 - 1, api.ErrLong}, {1 << 31, api.ErrLong}, {1<<32 - 9, api.ErrLong}, {1<<32 - 1, api.ErrLong},
	} {
		for _, behind := range []string{"", "\x00", "\xa5"} {
			refuses(t, four(c.length)+behind, c.want)
		}
	}
	refuses(t, plain(""), api.ErrEmpty)
	refuses(t, plain("")+plain("a"), api.ErrEmpty)
	refuses(t, noughts(100), api.ErrEmpty)
	longer := plain(long(most + 1))
	refuses(t, longer, api.ErrLong)
	refuses(t, longer[:len(longer)-1], api.ErrLong)
	refuses(t, longer[:len(longer)-1]+"\x00", api.ErrLong)
	next(t, plain(long(most)), long(most), most+9, api.OK)
}

// P16.2: a last byte that isn't 165, a sum that is another one, and both, of which the last byte is told.
func TestNextEnd(t *testing.T) {
	for _, record := range append(some(), long(most)) {
		s := plain(record)
		end, sum := len(s)-1, len(s)-5
		for b := range 256 {
			if b != 165 && len(record) < 300 {
				refuses(t, s[:end]+string([]byte{byte(b)}), api.ErrForm)
				refuses(t, s[:end]+string([]byte{byte(b)})+"\xa5", api.ErrForm)
			}
		}
		refuses(t, s[:end]+"\x00", api.ErrForm)
		for at := sum; at < end; at++ {
			turned := []byte(s)
			turned[at] ^= 1
			refuses(t, string(turned), api.ErrSum)
			turned[end] ^= 1
			refuses(t, string(turned), api.ErrForm)
		}
		alone := record // the sum is of the length, too
		refuses(t, s[:sum]+four(crc32.ChecksumIEEE([]byte(alone)))+"\xa5", api.ErrSum)
		refuses(t, s[:sum]+noughts(4)+"\xa5", api.ErrSum)
	}
}

// P16.2: each byte turned to each other one.
func TestNextAnyBytes(t *testing.T) {
	for _, record := range []string{"a", "ab", "\x00\xa5", plain("x"), long(20)} {
		s := plain(record) + plain("next")
		for at := range len(s) {
			for b := range 256 {
				turned := s[:at] + string([]byte{byte(b)}) + s[at+1:]
				want, size, code := told(turned)
				next(t, turned, want, size, code)
				if code == api.OK {
					stands(t, []string{want}, turned[:size], api.OK)
				}
			}
		}
	}
	for seed := range int64(3000) {
		r := rand.New(rand.NewSource(seed))
		b := make([]byte, r.Intn(60))
		r.Read(b)
		for at := range min(3, len(b)) {
			b[at] = 0
		}
		want, size, code := told(string(b))
		next(t, string(b), want, size, code)
	}
}

// P16.2: all records at the front, as far as there are such, one behind the other.
func TestScan(t *testing.T) {
	scans(t, "", nil, 0)
	for n := range 40 {
		scans(t, noughts(n), nil, 0)
	}
	scans(t, "\xa5", nil, 0)
	for count := range 6 {
		l := some()[:count]
		s := plain(l...)
		for _, behind := range []string{
			"", "\x00", noughts(3), noughts(4), noughts(500), "\xa5", "x", "no record", letters("\xff", 40), four(most + 1), plain(""),
			plain("y")[:9], plain("y")[:9] + "\x00", "\x00" + plain("y"), plain("", "y"), four(1) + "y" + noughts(4) + "\xa5" + plain("z"),
		} {
			scans(t, s+behind, l, len(s))
		}
	}
	l := some()
	for at := range l { // one of them is none any more: those ahead of it are told
		ahead := plain(l[:at]...)
		broken := []byte(plain(l...))
		broken[len(ahead)+4] ^= 8
		scans(t, string(broken), l[:at], len(ahead))
	}
	many := slices.Repeat([]string{"a", long(20), noughts(3)}, 2000)
	scans(t, plain(many...), many, len(plain(many...)))
	scans(t, plain(long(most), "a", long(most))+noughts(9), []string{long(most), "a", long(most)}, 2*(most+9)+10)
}

// cutAt: of such bytes, as far as a cut, with noughts behind or nothing, the records are told whose last byte was written.
func cutAt(t *testing.T, records []string, cut int) {
	t.Helper()
	s := plain(records...)
	want, size := 0, 0
	for _, record := range records {
		if size+len(record)+9 > cut {
			break
		}
		size += len(record) + 9
		want++
	}
	for _, behind := range []int{0, 1, 2, 3, 4, 9, 64, len(s) - cut, len(s) - cut + 300, 70000} {
		got, n := Scan(s[:cut] + noughts(behind))
		if !slices.Equal(got, records[:want]) || n != size {
			t.Fatalf("%d records, cut at %d, %d noughts: %d records, %d bytes, wanted %d, %d", len(records), cut, behind, len(got), n, want, size)
		}
	}
}

// P16.3: at each cut just the records are told whose last byte was written.
func TestCuts(t *testing.T) {
	for _, record := range some() {
		for _, records := range [][]string{{record}, {"a", record}, {record, "b"}, {record, noughts(5), record}} {
			for cut := range len(plain(records...)) + 1 {
				if len(plain(records...)) < 400 || cut%7 < 2 {
					cutAt(t, records, cut)
				}
			}
		}
	}
}

// P16.3: a length that was written in part is less; the byte behind it is a nought.
func TestCutsOfLength(t *testing.T) {
	for _, length := range []int{0x00FF, 0x0100, 0x01FF, 0xFFFF, 0x010000, 0x010001, 0x010203, 0x01FFFF, 0x020000} {
		for _, record := range []string{long(length), noughts(length), letters("\xa5", length)} {
			for _, records := range [][]string{{record}, {"a", record}} {
				s := plain(records...)
				start := len(s) - length - 9
				for cut := start; cut <= start+14; cut++ {
					cutAt(t, records, cut)
				}
				for cut := len(s) - 10; cut <= len(s); cut++ {
					cutAt(t, records, cut)
				}
			}
		}
	}
}

// P16.2, P16.3: what was written is told, of records of any bytes, cut anywhere.
func TestRows(t *testing.T) {
	for seed := range int64(300) {
		r := rand.New(rand.NewSource(seed))
		var l []string
		for range r.Intn(6) {
			b := make([]byte, 1+r.Intn(300))
			r.Read(b)
			l = append(l, string(b))
		}
		s, code := Bytes(l...)
		if code != api.OK || s != plain(l...) {
			t.Fatalf("seed %d: %d", seed, code)
		}
		scans(t, s, l, len(s))
		cutAt(t, l, r.Intn(len(s)+1))
	}
}

// Memory: what is handed in isn't changed, spare room included, nor kept; lists that are told are new.
func TestMemory(t *testing.T) {
	spare := []string{"a", "b", "c", "spare"}
	was := slices.Clone(spare)
	s, _ := Bytes(spare[:3]...)
	spare[0] = "other"
	if want := plain("a", "b", "c"); s != want {
		t.Errorf("%x, wanted %x", s, want)
	}
	spare[0] = "a"
	Bytes(spare[:2]...)
	if !slices.Equal(spare, was) {
		t.Errorf("%q, wanted %q", spare, was)
	}
	one, _ := Scan(s)
	other, _ := Scan(s)
	one[0] = "own"
	if one = append(one, "more"); !slices.Equal(other, was[:3]) || len(one) != 4 {
		t.Errorf("%q", other)
	}
}
