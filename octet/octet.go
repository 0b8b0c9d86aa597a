// Package octet is layer 1: see shared/doc/01-octet.md.
package octet

import "stairwell/api"

const (
	widest   = 8         // bytes of a number
	lengthOf = 2         // bytes of a text's length
	longest  = 1<<16 - 1 // bytes of a text: its length has no room for more
)

// Out is bytes that are written.
type Out struct {
	bytes string
	err   api.Errno
}

// In is bytes that are read. Behind an error it has none, so that nothing is read any more.
type In struct {
	rest string
	err  api.Errno
}

// width: how many bytes a number has, whatever was asked for.
func width(bytes int) int {
	return min(max(bytes, 0), widest)
}

// Num: and a number of so many bytes, its highest ones left out.
func (o Out) Num(n uint64, bytes int) Out {
	var all [widest]byte
	for at := range all {
		all[widest-1-at] = byte(n >> (8 * at))
	}
	return o.Raw(string(all[widest-width(bytes):]))
}

// Text: and a text; of one that is too long nothing.
func (o Out) Text(s string) Out {
	if len(s) > longest {
		o.err = api.ErrLong
		return o
	}
	return o.Num(uint64(len(s)), lengthOf).Raw(s)
}

// Raw: and bytes.
func (o Out) Raw(s string) Out {
	o.bytes += s
	return o
}

// String: all bytes.
func (o Out) String() string { return o.bytes }

// Err: whether something was too long.
func (o Out) Err() api.Errno { return o.err }

// New: what reads some bytes, from the front.
func New(s string) *In { return &In{rest: s} }

// Fail: the error is that, if there is none yet.
func (i *In) Fail(code api.Errno) {
	if i == nil || code == api.OK || i.err != api.OK {
		return
	}
	i.err = code
	i.rest = ""
}

// Raw: so many bytes.
func (i *In) Raw(n int) string {
	if i == nil || n <= 0 {
		return ""
	}
	if n > len(i.rest) {
		i.Fail(api.ErrShort)
		return ""
	}
	s := i.rest[:n]
	i.rest = i.rest[n:]
	return s
}

// Num: a number of so many bytes.
func (i *In) Num(bytes int) uint64 {
	var n uint64
	for _, b := range []byte(i.Raw(width(bytes))) {
		n = n<<8 | uint64(b)
	}
	return n
}

// Text: a text of at most so many bytes. That it is longer is told ahead of whether it is there.
func (i *In) Text(most int) string {
	length := int(i.Num(lengthOf))
	if length > most {
		i.Fail(api.ErrLong)
	}
	return i.Raw(length)
}

// Left: how many bytes are left.
func (i *In) Left() int {
	if i == nil {
		return 0
	}
	return len(i.rest)
}

// Err: the first error.
func (i *In) Err() api.Errno {
	if i == nil {
		return api.ErrNil
	}
	return i.err
}

// End: the first error, or that bytes are left.
func (i *In) End() api.Errno {
	if i.Left() > 0 {
		return api.ErrForm
	}
	return i.Err()
}
