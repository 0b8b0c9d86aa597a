package wal

import (
	"encoding/binary"
	"hash/crc32"
	"math"
	"math/rand"
	"slices"
	"strconv"
	"strings"
	"testing"

	"stairwell/api"
	"stairwell/disk"
)

// most is how many bytes a record has at most.
const most = 131072

// letters: a text of so many of one letter.
func letters(letter string, n int) string { return strings.Repeat(letter, n) }

// noughts: so many.
func noughts(n int) string { return letters("\x00", n) }

// long: a text of so many bytes, any bytes.
func long(n int) string {
	b := make([]byte, n)
	for at := range b {
		b[at] = byte(at*at*5 + at*37 + 254)
	}
	return string(b)
}

// padded: a text, and noughts up to so many bytes.
func padded(s string, size int) string { return s + noughts(size-len(s)) }

// short: a text for a message of a test.
func short(s string) string { return strconv.Quote(s[:min(len(s), 60)]) }

// apart: where two texts begin to differ, and what stands there.
func apart(got, want string) string {
	at := 0
	for at < min(len(got), len(want)) && got[at] == want[at] {
		at++
	}
	return strconv.Itoa(len(got)) + " and " + strconv.Itoa(len(want)) + " bytes, from " + strconv.Itoa(at) + " on " + short(got[at:]) + ", wanted " + short(want[at:])
}

// sum: a text's, as four bytes.
func sum(s string) string {
	return string(binary.BigEndian.AppendUint32(nil, crc32.ChecksumIEEE([]byte(s))))
}

// headOf: a head of a generation, as the document's words have it.
func headOf(gen uint64) string {
	front := "STRW" + string(binary.BigEndian.AppendUint64(nil, gen))
	return front + sum(front) + "\xa5"
}

// rowOf: records as they stand, whether they may be or not.
func rowOf(records ...string) string {
	all := ""
	for _, record := range records {
		front := string(binary.BigEndian.AppendUint32(nil, uint32(len(record)))) + record
		all += front + sum(front) + "\xa5"
	}
	return all
}

// recordsOf: the records at the front of a row.
func recordsOf(row string) []string {
	var l []string
	for len(row) >= 4 {
		length := int(binary.BigEndian.Uint32([]byte(row)))
		if length == 0 || length > most || len(row) < length+9 || row[:length+9] != rowOf(row[4:4+length]) {
			break
		}
		l = append(l, row[4:4+length])
		row = row[length+9:]
	}
	return l
}

// write is bytes for a block.
type write struct {
	at   int
	data string
}

// plain is a log, and its disk, as the document's words have them.
type plain struct {
	lasts      []byte
	off, armed bool
	syncs, cut int
	area       int // -1: none
	gen        uint64
	ready      bool
	broken     bool
	logged     []string // what stands in the row, the image first
	waits      []string
}

// half: how many blocks an area has.
func (p *plain) half() int { return len(p.lasts) / 64 / 2 }

// rowSize: how many bytes a row has.
func (p *plain) rowSize() int { return 64 * (p.half() - 1) }

// sync: these blocks are written, and synced.
func (p *plain) sync(l []write) api.Errno {
	if p.off {
		return api.ErrPower
	}
	left := math.MaxInt
	if p.armed && p.syncs == 0 {
		left, p.off = p.cut, true
	}
	p.syncs--
	for _, one := range l {
		for n := range len(one.data) {
			if left > 0 {
				p.lasts[64*one.at+n] = one.data[n]
			}
			left--
		}
	}
	if p.off {
		return api.ErrPower
	}
	return api.OK
}

// open: as the document's words have it; beside an error the log is as it was.
func (p *plain) open() (string, []string, api.Errno) {
	switch {
	case p.off:
		return "", nil, api.ErrPower
	case len(p.lasts) < 4*64:
		return "", nil, api.ErrRange
	}
	p.area, p.gen, p.ready, p.broken, p.logged, p.waits = -1, 0, false, false, nil, nil
	var own uint64
	var found []string
	for area := range 2 {
		start := 64 * p.half() * area
		gen := binary.BigEndian.Uint64(p.lasts[start+4:])
		if string(p.lasts[start:start+17]) != headOf(gen) {
			continue
		}
		p.gen = max(p.gen, gen)
		records := recordsOf(string(p.lasts[start+64 : start+64+p.rowSize()]))
		if len(records) > 0 && (p.area < 0 || gen > own) {
			p.area, own, found = area, gen, records
		}
	}
	if p.area < 0 {
		return "", nil, api.OK
	}
	return found[0], found[1:], api.OK
}

// wrong: the error of the first one that isn't a record.
func wrong(records []string) api.Errno {
	for _, record := range records {
		if record == "" {
			return api.ErrEmpty
		}
		if len(record) > most {
			return api.ErrLong
		}
	}
	return api.OK
}

// blocks: bytes in whole blocks, from one on.
func blocks(at int, s string) []write {
	var l []write
	for ; len(s) > 64; s = s[64:] {
		l = append(l, write{at, s[:64]})
		at++
	}
	return append(l, write{at, padded(s, 64)})
}

// steps: the three of a Begin.
func (p *plain) steps(image string) [][]write {
	first := 0
	if p.area == 0 {
		first = p.half()
	}
	return [][]write{blocks(first, noughts(64)), blocks(first+1, padded(rowOf(image), p.rowSize())), blocks(first, headOf(p.gen+1))}
}

func (p *plain) begin(image string) api.Errno {
	switch code := wrong([]string{image}); {
	case p.broken:
		return api.ErrBroken
	case code != api.OK:
		return code
	case len(image)+9 > p.rowSize():
		return api.ErrSpace
	case p.gen == math.MaxUint64:
		return api.ErrEnd
	}
	for _, step := range p.steps(image) {
		if code := p.sync(step); code != api.OK {
			p.broken, p.ready = true, false
			return code
		}
	}
	p.gen++
	p.ready, p.logged, p.waits = true, []string{image}, nil
	if p.area == 0 {
		p.area = 1
	} else {
		p.area = 0
	}
	return api.OK
}

// room: how many bytes of records.
func (p *plain) room() int {
	if !p.ready {
		return 0
	}
	return p.rowSize() - len(rowOf(p.logged...)) - len(rowOf(p.waits...))
}

func (p *plain) append(records []string) api.Errno {
	switch code := wrong(records); {
	case p.broken:
		return api.ErrBroken
	case !p.ready:
		return api.ErrOrder
	case code != api.OK:
		return code
	case len(rowOf(records...)) > p.room():
		return api.ErrSpace
	}
	p.waits = append(p.waits, records...)
	return api.OK
}

// what: the blocks that a Commit writes.
func (p *plain) what() []write {
	from := len(rowOf(p.logged...)) / 64
	row := rowOf(append(slices.Clone(p.logged), p.waits...)...)
	return blocks(p.area*p.half()+1+from, row[64*from:])
}

func (p *plain) commit() api.Errno {
	switch {
	case p.broken:
		return api.ErrBroken
	case !p.ready:
		return api.ErrOrder
	case len(p.waits) == 0:
		return api.OK
	}
	if code := p.sync(p.what()); code != api.OK {
		p.broken, p.ready = true, false
		return code
	}
	p.logged, p.waits = append(p.logged, p.waits...), nil
	return api.OK
}

// pair is a disk and its log, and what they should be.
type pair struct {
	d *disk.Disk
	l *Log
	p *plain
}

// laid: a disk with these bytes, in whole blocks, without a log yet.
func laid(t *testing.T, s string) *pair {
	t.Helper()
	d := disk.New(len(s) / 64)
	for at := range d.Blocks() {
		if code := d.Write(at, s[64*at:64*at+64]); code != api.OK {
			t.Fatalf("block %d: %d", at, code)
		}
	}
	if code := d.Sync(); code != api.OK {
		t.Fatalf("Sync: %d", code)
	}
	return &pair{d: d, p: &plain{lasts: []byte(s)}}
}

// opened: a disk with these bytes, and a log on it.
func opened(t *testing.T, s string) *pair {
	t.Helper()
	x := laid(t, s)
	x.open(t)
	return x
}

// open: the log is opened, and tells what it should.
func (x *pair) open(t *testing.T) {
	t.Helper()
	l, image, logged, code := Open(x.d)
	wantImage, wantLogged, want := x.p.open()
	if code != want || image != wantImage || !slices.Equal(logged, wantLogged) || (l == nil) != (want != api.OK) {
		t.Fatalf("Open: %s, %d records, %d, wanted %s, %d records, %d", short(image), len(logged), code, short(wantImage), len(wantLogged), want)
	}
	if want == api.OK {
		x.l = l
	}
	x.alike(t, "Open")
}

// alike: the disk and the log tell what they should.
func (x *pair) alike(t *testing.T, what string) {
	t.Helper()
	if x.d.Lasts() != string(x.p.lasts) || x.d.On() == x.p.off || x.d.Waits() != 0 {
		t.Fatalf("%s: on %v, %d wait, wanted %v; %s", what, x.d.On(), x.d.Waits(), !x.p.off, apart(x.d.Lasts(), string(x.p.lasts)))
	}
	if x.l != nil && (x.l.Ready() != x.p.ready || x.l.Room() != x.p.room() || x.l.Gen() != x.p.gen) {
		t.Fatalf("%s: %v, %d, %d, wanted %v, %d, %d", what, x.l.Ready(), x.l.Room(), x.l.Gen(), x.p.ready, x.p.room(), x.p.gen)
	}
}

// said: a call answered what it should, and all is as it should be.
func (x *pair) said(t *testing.T, what string, got, want api.Errno) api.Errno {
	t.Helper()
	if got != want {
		t.Fatalf("%s: %d, wanted %d", what, got, want)
	}
	x.alike(t, what)
	return got
}

func (x *pair) begin(t *testing.T, image string) api.Errno {
	t.Helper()
	return x.said(t, "Begin", x.l.Begin(image), x.p.begin(image))
}

func (x *pair) append(t *testing.T, records ...string) api.Errno {
	t.Helper()
	return x.said(t, "Append", x.l.Append(records...), x.p.append(records))
}

func (x *pair) commit(t *testing.T) api.Errno {
	t.Helper()
	return x.said(t, "Commit", x.l.Commit(), x.p.commit())
}

func (x *pair) arm(syncs, cut int) {
	x.d.Arm(syncs, cut)
	if !x.p.off {
		x.p.armed, x.p.syncs, x.p.cut = true, syncs, cut
	}
}

func (x *pair) down() {
	x.d.Down(0)
	x.p.off = true
}

func (x *pair) up() {
	x.d.Up()
	if x.p.off {
		x.p.off, x.p.armed = false, false
	}
}

// some: a text by chance, that would have just that room as a record, one byte more, or any length below.
func some(r *rand.Rand, room int) string {
	length := r.Intn(30)
	switch r.Intn(12) {
	case 0:
		length = room - 9
	case 1:
		length = room - 8
	case 2:
		length = 0
	case 3, 4:
		length = r.Intn(max(room-9, 1))
	case 5:
		if r.Intn(10) == 0 {
			length = most + r.Intn(2)
		}
	}
	b := make([]byte, max(length, 0))
	r.Read(b)
	return string(b)
}

// act: one call by chance.
func (x *pair) act(t *testing.T, r *rand.Rand) api.Errno {
	t.Helper()
	code := api.OK
	switch r.Intn(20) {
	case 0, 1:
		x.up()
		x.open(t)
	case 2:
		code = x.begin(t, some(r, x.p.rowSize()))
	case 3:
		x.arm(r.Intn(4), r.Intn(220))
	case 4:
		if r.Intn(6) == 0 {
			x.down()
		}
	case 5:
		x.up()
	case 6, 7, 8, 9:
		code = x.commit(t)
	case 10:
		code = x.append(t, some(r, x.p.room()), some(r, x.p.room()/2))
	case 11:
		code = x.append(t)
	case 12, 13:
		if !x.p.ready {
			code = x.begin(t, some(r, 30))
		}
	default:
		code = x.append(t, some(r, x.p.room()))
	}
	x.alike(t, "behind it")
	return code
}

// P17.1 to P17.3: long rows of calls, held against the document's words behind each.
func TestRows(t *testing.T) {
	seen := map[api.Errno]int{}
	for seed := range int64(300) {
		r := rand.New(rand.NewSource(seed))
		s := make([]byte, 64*(4+r.Intn(10)))
		if seed%3 == 0 {
			r.Read(s)
		}
		x := opened(t, string(s))
		if seed%20 == 0 {
			x = opened(t, areaOf(3, headOf(math.MaxUint64-3), "")+areaOf(3, "", ""))
		}
		for range 300 {
			seen[x.act(t, r)]++
		}
	}
	for _, code := range []api.Errno{api.OK, api.ErrBroken, api.ErrEmpty, api.ErrLong, api.ErrSpace, api.ErrEnd, api.ErrOrder, api.ErrPower} {
		if seen[code] == 0 {
			t.Errorf("no row comes to the error %s", strconv.Itoa(int(code)))
		}
	}
}

// areaOf: an area of so many blocks, with these bytes at the front of its first one, and of its row.
func areaOf(half int, front, row string) string {
	return padded(front, 64) + padded(row, 64*(half-1))
}
