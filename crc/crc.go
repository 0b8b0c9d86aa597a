// Package crc is layer 2: see shared/doc/02-crc.md.
package crc

// laid has, for each value of the lowest four bits, all that is laid onto a register while it is moved down by these:
// with it a byte takes two steps instead of eight.
var laid = [16]uint32{
	0x00000000, 0x1DB71064, 0x3B6E20C8, 0x26D930AC,
	0x76DC4190, 0x6B6B51F4, 0x4DB26158, 0x5005713C,
	0xEDB88320, 0xF00F9344, 0xD6D6A3E8, 0xCB61B38C,
	0x9B64C2B0, 0x86D3D2D4, 0xA00AE278, 0xBDBDF21C,
}

// Step: the register behind a byte.
func Step(register uint32, b byte) uint32 {
	register ^= uint32(b)
	for range 2 {
		register = register>>4 ^ laid[register&15]
	}
	return register
}

// Sum: of all parts' bytes, one behind the other.
func Sum(parts ...string) uint32 {
	register := ^uint32(0)
	for _, part := range parts {
		for at := range len(part) {
			register = Step(register, part[at])
		}
	}
	return ^register
}
