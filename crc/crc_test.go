package crc

import (
	"strings"
	"testing"
)

// plain is Step as the document's words have it: bit by bit.
func plain(register uint32, b byte) uint32 {
	register ^= uint32(b)
	for range 8 {
		if register&1 == 1 {
			register = register>>1 ^ 0xEDB88320
		} else {
			register >>= 1
		}
	}
	return register
}

// back is the register that plain went on from.
func back(register uint32, b byte) uint32 {
	for range 8 {
		if register>>31 == 1 {
			register = (register^0xEDB88320)<<1 | 1
		} else {
			register <<= 1
		}
	}
	return register ^ uint32(b)
}

// registers: ends, single bits, and a row that goes all about, of a fixed rule.
func registers() []uint32 {
	l := []uint32{0, ^uint32(0), 0xEDB88320, 0x12345678, 0xCAFEBABE}
	for bit := range 32 {
		l = append(l, 1<<bit, ^uint32(1<<bit))
	}
	r := uint32(1)
	for range 400 {
		r = r*1664525 + 1013904223
		l = append(l, r)
	}
	return l
}

// P2.1: a step is what eight moves come to, of any register and byte.
func TestStepIsEightMoves(t *testing.T) {
	for _, r := range registers() {
		for b := range 256 {
			if got, want := Step(r, byte(b)), plain(r, byte(b)); got != want {
				t.Fatalf("Step(%#x, %d): %#x, wanted %#x", r, b, got, want)
			}
		}
	}
}

// P2.1: sums that are known.
func TestSumKnown(t *testing.T) {
	for _, c := range []struct {
		parts []string
		want  uint32
	}{
		{nil, 0},
		{[]string{""}, 0},
		{[]string{"", "", ""}, 0},
		{[]string{"123456789"}, 0xCBF43926},
		{[]string{"a"}, 0xE8B7BE43},
		{[]string{"\x00"}, 0xD202EF8D},
		{[]string{"\xff"}, 0xFF000000},
		{[]string{"\xff\xff\xff\xff"}, 0xFFFFFFFF},
		{[]string{strings.Repeat("\x00", 32)}, 0x190A55AD},
		{[]string{"The quick brown fox jumps over the lazy dog"}, 0x414FA339},
	} {
		if got := Sum(c.parts...); got != c.want {
			t.Errorf("Sum(%q): %#x, wanted %#x", c.parts, got, c.want)
		}
	}
}

// P2.1: a sum begins with all ones, steps by each byte, and ends turned.
func TestSumIsSteps(t *testing.T) {
	for n := range 300 {
		text := some(n)
		register := ^uint32(0)
		for _, b := range []byte(text) {
			register = plain(register, b)
		}
		if got := Sum(text); got != ^register {
			t.Fatalf("of %d bytes: %#x, wanted %#x", n, got, ^register)
		}
	}
}

// some: so many bytes, of a fixed rule.
func some(n int) string {
	b := make([]byte, n)
	for at := range b {
		b[at] = byte(at*at*7 + at*31 + 5)
	}
	return string(b)
}

// P2.1: where the bytes are cut into parts changes nothing; bytes, not runes, are summed.
func TestSumOfParts(t *testing.T) {
	text := "12345\xc3\xa9\x80\xff6789"
	whole := Sum(text)
	for a := range len(text) + 1 {
		for b := a; b <= len(text); b++ {
			if got := Sum(text[:a], text[a:b], "", text[b:]); got != whole {
				t.Fatalf("cut at %d, %d: %#x, wanted %#x", a, b, got, whole)
			}
		}
	}
	if Sum(strings.Split(text, "")...) != whole {
		t.Error("cut at each rune: another sum")
	}
	if Sum("ab", "c") == Sum("c", "ab") {
		t.Error("in another order: the same sum")
	}
}

// Memory: the parts, and the room behind them, are as they were.
func TestSumLeavesParts(t *testing.T) {
	room := []string{"a", "b", "c"}
	first := Sum(room[:2]...)
	if room[0] != "a" || room[1] != "b" || room[2] != "c" {
		t.Errorf("parts: %q", room)
	}
	if again := Sum(room[:2]...); again != first {
		t.Errorf("again: %#x, wanted %#x", again, first)
	}
}

// P2.2: bits within 32 in a row, from any bit on, in texts of several lengths.
func TestSumTellsBursts(t *testing.T) {
	for _, n := range []int{1, 4, 5, 9, 40} {
		text := []byte(some(n))
		whole := Sum(string(text))
		for from := range n * 8 {
			for _, pattern := range registers() {
				other := turned(text, from, pattern)
				if string(other) != string(text) && Sum(string(other)) == whole {
					t.Fatalf("of %d bytes, %#x turned from bit %d on: the same sum", n, pattern, from)
				}
			}
		}
	}
}

// turned: the bytes with the bits of a pattern turned, the first one at that bit, as far as there are bits.
func turned(text []byte, from int, pattern uint32) []byte {
	other := append([]byte(nil), text...)
	for bit := range 32 {
		at := from + bit
		if pattern>>bit&1 == 1 && at < 8*len(other) {
			other[at/8] ^= 1 << (at % 8)
		}
	}
	return other
}

// P2.3: what a register stepped to tells the register, so unlike ones step to unlike ones.
func TestUnlikeRegisters(t *testing.T) {
	for _, r := range registers() {
		for b := range 256 {
			if got := back(Step(r, byte(b)), byte(b)); got != r {
				t.Fatalf("back from Step(%#x, %d): %#x", r, b, got)
			}
		}
	}
}

// P2.3: the 256 bytes step a register to 256 ones.
func TestUnlikeBytes(t *testing.T) {
	for _, r := range registers() {
		seen := map[uint32]int{}
		for b := range 256 {
			to := Step(r, byte(b))
			if a, there := seen[to]; there {
				t.Fatalf("from %#x the bytes %d and %d step to %#x", r, a, b, to)
			}
			seen[to] = b
		}
	}
}
