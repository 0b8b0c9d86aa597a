package frame

import (
	"encoding/binary"
	"hash/crc32"
	"strings"
	"testing"

	"stairwell/api"
)

// some: so many bytes, of a fixed rule; 206 is among them, if there are enough.
func some(n int) string {
	b := make([]byte, n)
	for at := range b {
		b[at] = byte(at*at*7 + at*31 + 206)
	}
	return string(b)
}

// plain: a frame's bytes as the document's words have them, however many it holds.
func plain(f Frame) string {
	b := []byte{f.Channel, f.Kind}
	b = binary.BigEndian.AppendUint16(b, uint16(len(f.Body)))
	b = append(b, f.Body...)
	b = binary.BigEndian.AppendUint32(b, crc32.ChecksumIEEE(b))
	return string(append(b, 206))
}

// with: some bytes, one of them laid onto by others.
func with(s string, at int, bits byte) string {
	b := []byte(s)
	b[at] ^= bits
	return string(b)
}

// frames: frames of unlike channels, kinds and lengths, up to the most bytes.
func frames() []Frame {
	l := []Frame{
		{}, {1, 2, ""}, {255, 254, ""}, {206, 206, "\xce"}, {0, 0, "\x00"}, {0, 0, "\xce\xce\xce\xce\xce\xce\xce\xce\xce"},
		{1, 2, "ab"}, {1, 2, "\xc3\xa9\x80\xff"}, {9, 9, plain(Frame{1, 2, "ab"})},
	}
	for _, n := range []int{1, 2, 3, 4, 5, 9, 205, 206, 207, 255, 256, 257, 511, 512, 1024, 2046, 2047, 2048} {
		l = append(l, Frame{uint8(n), uint8(n / 7), some(n)}, Frame{uint8(n * 3), 1, strings.Repeat("\x00", n)})
	}
	return l
}

// refuse: bytes that are told to be no frame, by that error.
func refuse(t *testing.T, what, s string, want api.Errno) {
	t.Helper()
	if f, n, code := Parse(s); code != want || n != 0 || f != (Frame{}) {
		t.Fatalf("%s: %#v, %d, %d, wanted %d", what, f, n, code, want)
	}
}

// read: bytes that begin with that frame's.
func read(t *testing.T, what, s string, f Frame, length int) {
	t.Helper()
	if got, n, code := Parse(s); code != api.OK || n != length || got != f {
		t.Fatalf("%s: %#v, %d, %d, wanted %#v, %d", what, got, n, code, f, length)
	}
}

// P7.1: bytes that are known.
func TestBytesKnown(t *testing.T) {
	for _, c := range []struct {
		f    Frame
		want string
	}{
		{Frame{}, "\x00\x00\x00\x00\x21\x44\xdf\x1c\xce"},
		{Frame{1, 2, ""}, "\x01\x02\x00\x00\x9a\x7c\x6c\x17\xce"},
		{Frame{255, 254, "ab"}, "\xff\xfe\x00\x02ab\x7e\xdc\x6a\xaf\xce"},
	} {
		if got, code := Bytes(c.f); code != api.OK || got != c.want {
			t.Errorf("%#v: %x, %d, wanted %x", c.f, got, code, c.want)
		}
		read(t, "known", c.want, c.f, len(c.want))
	}
	if s, _ := Bytes(Frame{1, 2, ""}); len(s) != 9 {
		t.Errorf("of no bytes: %d", len(s))
	}
}

// P7.1: bytes of all channels and kinds, and of all lengths up to the most.
func TestBytes(t *testing.T) {
	for n := range 256 {
		for _, f := range []Frame{{uint8(n), 0, "a"}, {0, uint8(n), "a"}, {uint8(n), uint8(n), ""}} {
			if got, code := Bytes(f); code != api.OK || got != plain(f) {
				t.Errorf("%#v: %x, %d", f, got, code)
			}
		}
	}
	for n := range 2049 {
		f := Frame{3, 4, some(n)}
		if got, code := Bytes(f); code != api.OK || got != plain(f) || len(got) != n+9 {
			t.Fatalf("of %d bytes: %d bytes, %d", n, len(got), code)
		}
	}
}

// P7.1: a frame that holds too many; some of them so many that their length's two bytes begin anew.
func TestBytesLong(t *testing.T) {
	for _, n := range []int{2049, 2050, 4096, 65535, 65536, 65537, 65536 + 2048, 1 << 20} {
		if got, code := Bytes(Frame{1, 2, some(n)}); code != api.ErrLong || got != "" {
			t.Errorf("of %d bytes: %d bytes, %d", n, len(got), code)
		}
	}
}

// P7.2: bytes that were written elsewhere are read.
func TestParse(t *testing.T) {
	for _, f := range frames() {
		s := plain(f)
		read(t, "alone", s, f, len(f.Body)+9)
	}
}

// P7.2: too many bytes are told as soon as four are there, and not ahead of that.
func TestParseLong(t *testing.T) {
	for _, n := range []int{2049, 2050, 2303, 2304, 4096, 65535} {
		s := plain(Frame{1, 2, some(n)})
		for _, length := range []int{0, 1, 2, 3} {
			refuse(t, "too few to tell", s[:length], api.ErrShort)
		}
		for _, length := range []int{4, 5, 8, 9, n + 4, n + 8, n + 9} {
			refuse(t, "long", s[:length], api.ErrLong)
		}
		refuse(t, "long, and more", s+"\xce", api.ErrLong)
		refuse(t, "long, without its last byte's value", with(s, n+8, 1), api.ErrLong)
		refuse(t, "long, of another sum", with(s, n+4, 1), api.ErrLong)
		refuse(t, "long, with neither", with(with(s, n+4, 1), n+8, 1), api.ErrLong)
	}
	refuse(t, "three of the highest", "\xff\xff\xff", api.ErrShort)
	refuse(t, "four of the highest", "\xff\xff\xff\xff", api.ErrLong)
	refuse(t, "the most, not there", "\x00\x00\x08\x00", api.ErrShort)
	refuse(t, "one more", "\x00\x00\x08\x01", api.ErrLong)
}

// P7.2, P7.3: each beginning of a frame's bytes is too short, whatever its bytes are: that is told ahead of the last
// byte and of the sum.
func TestParseShort(t *testing.T) {
	for _, f := range frames() {
		s := plain(f)
		for length := range len(s) {
			refuse(t, "beginning", s[:length], api.ErrShort)
		}
		sum := len(s) - 5
		refuse(t, "of another sum", with(s, sum, 1)[:len(s)-1], api.ErrShort)
		refuse(t, "of another channel", with(s, 0, 1)[:len(s)-1], api.ErrShort)
		refuse(t, "with no 206", with(s, sum+3, s[sum+3])[:len(s)-1], api.ErrShort)
	}
	refuse(t, "nothing", "", api.ErrShort)
	refuse(t, "the last byte alone", "\xce", api.ErrShort)
	refuse(t, "of 206 alone", strings.Repeat("\xce", 3), api.ErrShort)
	refuse(t, "noughts", strings.Repeat("\x00", 8), api.ErrShort)
}

// P7.2: another last byte, which is told ahead of the sum.
func TestParseForm(t *testing.T) {
	for _, f := range frames() {
		s := plain(f)
		end := len(s) - 1
		for bits := 1; bits < 256; bits++ {
			refuse(t, "another last byte", with(s, end, byte(bits)), api.ErrForm)
			refuse(t, "and the right one behind", with(s, end, byte(bits))+"\xce", api.ErrForm)
			refuse(t, "and another sum", with(with(s, end, byte(bits)), end-4, 1), api.ErrForm)
			refuse(t, "and another kind", with(with(s, end, byte(bits)), 1, 1), api.ErrForm)
		}
	}
	refuse(t, "noughts", strings.Repeat("\x00", 9), api.ErrForm)
}

// P7.2: another sum: of all that stands ahead, and of nothing else, its highest byte first.
func TestParseSum(t *testing.T) {
	refuse(t, "no sum", "\x01\x02\x00\x00\x00\x00\x00\x00\xce", api.ErrSum)
	refuse(t, "lowest byte first", "\x01\x02\x00\x00\x17\x6c\x7c\x9a\xce", api.ErrSum)
	for _, part := range []string{"", "ab", "\x00\x02ab", "\x02\x00\x02ab", "\x01\x02ab", "\x01\x02\x00\x02"} {
		s := binary.BigEndian.AppendUint32([]byte("\x01\x02\x00\x02ab"), crc32.ChecksumIEEE([]byte(part)))
		refuse(t, "of a part", string(s)+"\xce", api.ErrSum)
	}
	for _, f := range frames() {
		s := plain(f)
		for bit := range 32 {
			refuse(t, "another sum", with(s, len(s)-5+bit/8, 1<<(bit%8)), api.ErrSum)
		}
	}
}

// P7.3: what was written is read as it was, whatever stands behind.
func TestWrittenIsRead(t *testing.T) {
	for _, f := range frames() {
		s, code := Bytes(f)
		if code != api.OK {
			t.Fatal(code)
		}
		read(t, "alone", s, f, len(s))
		for b := range 256 {
			read(t, "a byte behind", s+string([]byte{byte(b)}), f, len(s))
		}
		for _, behind := range []string{s, s[:len(s)-1], plain(Frame{7, 7, "other"}), "\xff\xff\xff\xff", strings.Repeat("\xce", 99), some(5000)} {
			read(t, "more behind", s+behind, f, len(s))
		}
	}
}

// P7.3: with one byte turned, that isn't one of its length, it is no frame: alone, and with bytes behind.
func TestByteTurned(t *testing.T) {
	for _, f := range []Frame{{}, {1, 2, ""}, {206, 0, "\xce"}, {1, 2, "ab"}, {4, 3, some(300)}} {
		s := plain(f)
		for at := range len(s) {
			for bits := 1; bits < 256 && at != 2 && at != 3; bits++ {
				want := api.ErrSum
				if at == len(s)-1 {
					want = api.ErrForm
				}
				refuse(t, "turned", with(s, at, byte(bits)), want)
				refuse(t, "turned, and more", with(s, at, byte(bits))+s, want)
			}
		}
	}
	s := plain(Frame{9, 11, some(2048)})
	for at := range len(s) - 1 {
		if at != 2 && at != 3 {
			refuse(t, "turned", with(s, at, 1<<(at%8)), api.ErrSum)
		}
	}
}

// told: what bytes begin with, as the document's words have it.
func told(s string) (Frame, int, api.Errno) {
	if len(s) < 4 {
		return Frame{}, 0, api.ErrShort
	}
	holds := int(s[2])*256 + int(s[3])
	switch {
	case holds > 2048:
		return Frame{}, 0, api.ErrLong
	case len(s) < holds+9:
		return Frame{}, 0, api.ErrShort
	case s[holds+8] != 206:
		return Frame{}, 0, api.ErrForm
	}
	f := Frame{s[0], s[1], s[4 : holds+4]}
	if s[:holds+9] != plain(f) {
		return Frame{}, 0, api.ErrSum
	}
	return f, holds + 9, api.OK
}

// P7.2: each byte turned, one of its length too, with other frames behind, so that the length may lead anywhere.
func TestParseAnyBytes(t *testing.T) {
	inner := plain(Frame{5, 6, "inner"})
	s := plain(Frame{1, 2, "a" + inner}) + plain(Frame{3, 4, some(300)}) + inner
	for at := range len(s) {
		for bits := range 256 {
			turned := with(s, at, byte(bits))
			f, length, code := told(turned)
			if code == api.OK {
				read(t, "turned", turned, f, length)
			} else {
				refuse(t, "turned", turned, code)
			}
		}
	}
}

// P7.2, P7.3: a frame that is held by another one is read alone, not where that one is.
func TestFrameInFrame(t *testing.T) {
	inner := plain(Frame{5, 6, "inner"})
	outer := plain(Frame{1, 2, inner})
	read(t, "outer", outer, Frame{1, 2, inner}, len(outer))
	read(t, "inner", outer[4:], Frame{5, 6, "inner"}, len(inner))
}

// P7.2: two are the same, if all is the same.
func TestSame(t *testing.T) {
	unlike := []Frame{
		{}, {1, 0, ""}, {0, 1, ""}, {1, 1, ""}, {0, 0, "\x00"}, {0, 0, "a"}, {0, 0, "A"}, {0, 0, "ab"}, {0, 0, "ba"},
		{1, 2, "ab"}, {2, 1, "ab"}, {255, 2, "ab"}, {1, 255, "ab"}, {1, 2, some(2048)}, {1, 2, some(2049)}, {1, 2, some(2048) + "x"},
	}
	for a := range unlike {
		for b := range unlike {
			other := unlike[b]
			other.Body = string([]byte(other.Body))
			if got := Same(unlike[a], other); got != (a == b) {
				t.Errorf("frames %d and %d: %v", a, b, got)
			}
		}
	}
}
