package store

import (
	"math"
	"reflect"
	"slices"
	"strconv"
	"strings"
	"testing"

	"stairwell/api"
	"stairwell/deed"
	"stairwell/head"
	"stairwell/line"
	"stairwell/mail"
	"stairwell/match"
	"stairwell/notes"
	"stairwell/octet"
	"stairwell/policy"
	"stairwell/route"
	"stairwell/stock"
)

// pile is a queue, and its messages.
type pile struct {
	queue stock.Queue
	items []line.Item
}

// climb is a rise: how many came, and those that are kept.
type climb struct {
	total uint64
	kept  []api.Mail
}

// plain is a store as the document's words have it: it is changed by what is done to it.
type plain struct {
	p      policy.Policy
	place  int
	next   uint64
	most   int
	shops  []route.Shop
	binds  []route.Bind
	piles  []pile
	climbs [16]climb
	told   uint64
	notes  []notes.Note
	seen   [16]uint64
	spent  [8]Spent
}

// dead is a message that waits to be buried.
type dead struct {
	queue string
	m     api.Mail
}

// clone: the same, of which each part may be changed.
func (p *plain) clone() *plain {
	more := *p
	more.shops, more.binds, more.notes = slices.Clone(p.shops), slices.Clone(p.binds), slices.Clone(p.notes)
	more.piles = slices.Clone(p.piles)
	for at := range more.piles {
		more.piles[at].items = slices.Clone(p.piles[at].items)
	}
	for at := range more.climbs {
		more.climbs[at].kept = slices.Clone(p.climbs[at].kept)
	}
	return &more
}

// blank: a new one.
func blank(p policy.Policy, place int) *plain {
	return &plain{p: p, place: place, next: p.Places[place].Base, most: p.Places[place].Bytes}
}

func (p *plain) findPile(name string) int {
	return slices.IndexFunc(p.piles, func(x pile) bool { return x.queue.Name == name })
}

func (p *plain) findShop(name string) int {
	return slices.IndexFunc(p.shops, func(x route.Shop) bool { return x.Name == name })
}

func sameBind(x, y route.Bind) bool {
	return x.Shop == y.Shop && x.To == y.To && x.Up == y.Up && x.Key == y.Key && x.All == y.All && slices.Equal(x.Want, y.Want)
}

func (p *plain) findBind(x route.Bind) int {
	return slices.IndexFunc(p.binds, func(y route.Bind) bool { return sameBind(x, y) })
}

// findPlace: which place has that name; -1.
func (p *plain) findPlace(name string) int {
	return slices.IndexFunc(p.p.Places, func(x policy.Place) bool { return x.Name == name })
}

// granted: the number of a grant; -1.
func (p *plain) granted(from, to int) int {
	return slices.IndexFunc(p.p.Grants, func(g policy.Grant) bool { return g.From == from && g.To == to })
}

// flows: does anything flow from the one place to the other one, as their labels have it?
func (p *plain) flows(from, to int) bool {
	a, b := p.p.Places[from].Label, p.p.Places[to].Label
	return from != to && a.Level <= b.Level && a.Set&^b.Set == 0
}

func (p *plain) size() int {
	n := 0
	for _, x := range p.piles {
		for _, one := range x.items {
			n += mail.Size(one.Mail)
		}
	}
	for _, x := range p.climbs {
		for _, m := range x.kept {
			n += mail.Size(m)
		}
	}
	return n
}

func (p *plain) note(tick uint64, kind uint8, text string) {
	if p.told == math.MaxUint64 {
		return
	}
	p.told++
	p.notes = append(p.notes, notes.Note{Tick: tick, Kind: kind, Text: text})
	if len(p.notes) > 32 {
		p.notes = p.notes[1:]
	}
}

// do: a deed is done, or nothing is.
func (p *plain) do(d deed.Deed) (*plain, Result, api.Errno) {
	code := d.Check()
	if code != api.OK {
		return p, Result{}, code
	}
	more, r := p.clone(), Result{}
	switch d.Kind {
	case deed.MakeShop:
		code = more.makeShop(d.Shop)
	case deed.DropShop:
		code = more.dropShop(d.Name)
	case deed.MakeQueue:
		code = more.makeQueue(d.Queue)
	case deed.DropQueue:
		code = more.dropQueue(d.Name)
	case deed.Bind:
		code = more.bind(d.Bind)
	case deed.Unbind:
		code = more.unbind(d.Bind)
	case deed.Put:
		r.Count, r.Lost, code = more.put(d.Tick, d.Mail.Shop, d.Mail)
	case deed.Lend:
		r.Item, code = more.lend(d.Name)
	case deed.Settle:
		r.Lost, code = more.settle(d)
	case deed.Late:
		r.Count, r.Lost = more.late(d.Tick)
	case deed.Pull:
		r.Count, r.Lost, code = more.pull(d)
	case deed.Wake:
		for at := range more.piles {
			for n := range more.piles[at].items {
				one := &more.piles[at].items[n]
				one.Again = one.Again || one.Lent
				one.Lent = false
			}
		}
		more.note(d.Tick, 3, "")
	case deed.Note:
		if p.told == math.MaxUint64 {
			code = api.ErrEnd
		}
		more.note(d.Tick, d.Code, d.Text)
	}
	if code != api.OK {
		return p, Result{}, code
	}
	return more, r, api.OK
}

func (p *plain) makeShop(x route.Shop) api.Errno {
	if x.Sort == 4 {
		to := p.findPlace(x.To)
		if to < 0 {
			return api.ErrNone
		}
		if p.granted(p.place, to) < 0 {
			return api.ErrFlow
		}
	}
	if slices.Contains(p.shops, x) {
		return api.OK
	}
	if x.Sort != 4 && x.To != "" {
		return api.ErrForm
	}
	if p.findShop(x.Name) >= 0 {
		return api.ErrThere
	}
	if len(p.shops) == 8 {
		return api.ErrFull
	}
	p.shops = append(p.shops, x)
	return api.OK
}

func (p *plain) dropShop(name string) api.Errno {
	at := p.findShop(name)
	if at < 0 {
		return api.ErrNone
	}
	p.shops = slices.Delete(p.shops, at, at+1)
	p.binds = slices.DeleteFunc(p.binds, func(x route.Bind) bool { return x.Shop == name })
	return api.OK
}

func (p *plain) makeQueue(q stock.Queue) api.Errno {
	if at := p.findPile(q.Name); at >= 0 && p.piles[at].queue == q {
		return api.OK
	}
	if q.Most < 1 || q.Most > 64 {
		return api.ErrRange
	}
	if p.findPile(q.Name) >= 0 {
		return api.ErrThere
	}
	if len(p.piles) == 8 {
		return api.ErrFull
	}
	p.piles = append(p.piles, pile{queue: q})
	return api.OK
}

func (p *plain) dropQueue(name string) api.Errno {
	at := p.findPile(name)
	if at < 0 {
		return api.ErrNone
	}
	p.piles = slices.Delete(p.piles, at, at+1)
	p.binds = slices.DeleteFunc(p.binds, func(x route.Bind) bool { return !x.Up && x.To == name })
	return api.OK
}

func (p *plain) bind(x route.Bind) api.Errno {
	if x.Up {
		to := p.findPlace(x.To)
		if to < 0 {
			return api.ErrNone
		}
		if !p.flows(p.place, to) {
			return api.ErrFlow
		}
	} else if p.findPile(x.To) < 0 {
		return api.ErrNone
	}
	if p.findBind(x) >= 0 {
		return api.OK
	}
	at := p.findShop(x.Shop)
	if at < 0 {
		return api.ErrNone
	}
	if p.shops[at].Sort == 4 {
		return api.ErrKind
	}
	if code := (match.Rule{Sort: p.shops[at].Sort, Key: x.Key, Want: x.Want, All: x.All}).Check(); code != api.OK {
		return code
	}
	if len(p.binds) == 32 {
		return api.ErrFull
	}
	p.binds = append(p.binds, x)
	return api.OK
}

func (p *plain) unbind(x route.Bind) api.Errno {
	at := p.findBind(x)
	if at < 0 {
		return api.ErrNone
	}
	p.binds = slices.Delete(p.binds, at, at+1)
	return api.OK
}

// lead: to which queues and places.
func (p *plain) lead(shop string, m api.Mail) (queues, places []string, code api.Errno) {
	at := p.findShop(shop)
	if at < 0 {
		return nil, nil, api.ErrNone
	}
	if p.shops[at].Sort == 4 {
		return nil, []string{p.shops[at].To}, api.OK
	}
	for _, x := range p.binds {
		if x.Shop != shop || !(match.Rule{Sort: p.shops[at].Sort, Key: x.Key, Want: x.Want, All: x.All}).Goes(m.Key, m.Head) {
			continue
		}
		l := &queues
		if x.Up {
			l = &places
		}
		if !slices.Contains(*l, x.To) {
			*l = append(*l, x.To)
		}
	}
	return queues, places, api.OK
}

// send: a message is sent, or nothing is done.
func (p *plain) send(tick uint64, shop string, m api.Mail) (int, []dead, api.Errno) {
	queues, places, code := p.lead(shop, m)
	if code != api.OK {
		return 0, nil, code
	}
	m.Shop = shop
	more, count, out := p.clone(), 0, []dead(nil)
	for _, name := range queues {
		at := more.findPile(name)
		if at < 0 {
			continue
		}
		pushed, code := more.toPile(tick, at, m)
		if code != api.OK {
			return 0, nil, code
		}
		out = append(out, pushed...)
		count++
	}
	for _, name := range places {
		if code := more.toPlace(tick, shop, name, m); code != api.OK {
			return 0, nil, code
		}
		count++
	}
	*p = *more
	return count, out, api.OK
}

func (p *plain) toPile(tick uint64, at int, m api.Mail) ([]dead, api.Errno) {
	x, out := &p.piles[at], []dead(nil)
	if p.next == 0 {
		return nil, api.ErrEnd
	}
	if len(x.items) == int(x.queue.Most) {
		first := slices.IndexFunc(x.items, func(one line.Item) bool { return !one.Lent })
		if first < 0 {
			return nil, api.ErrFull
		}
		out = []dead{{x.queue.Name, x.items[first].Mail}}
		x.items = slices.Delete(x.items, first, first+1)
	}
	m.ID = p.next
	p.next++
	if life := x.queue.Life; life > 0 && life <= math.MaxUint64-tick && (m.Due == 0 || tick+life < m.Due) {
		m.Due = tick + life
	}
	x.items = append(x.items, line.Item{Mail: m})
	if p.size() > p.most {
		return nil, api.ErrFull
	}
	return out, api.OK
}

func (p *plain) toPlace(tick uint64, shop, name string, m api.Mail) api.Errno {
	to := p.findPlace(name)
	if p.shops[p.findShop(shop)].Sort == 4 {
		number := p.granted(p.place, to)
		if number < 0 {
			return api.ErrGrant
		}
		round := tick / uint64(len(p.p.Slots))
		if p.spent[number].Round != round {
			p.spent[number] = Spent{Round: round}
		}
		if p.spent[number].Count >= p.p.Grants[number].Budget {
			return api.ErrGrant
		}
		p.spent[number].Count++
		p.note(tick, 2, name)
	}
	if to < 0 {
		return api.ErrRange
	}
	m.ID = 0
	x := &p.climbs[to]
	x.total++
	x.kept = append(x.kept, m)
	if len(x.kept) > 16 {
		x.kept = x.kept[1:]
	}
	if p.size() > p.most {
		return api.ErrFull
	}
	return api.OK
}

func (p *plain) put(tick uint64, shop string, m api.Mail) (int, int, api.Errno) {
	count, out, code := p.send(tick, shop, m)
	if code != api.OK {
		return 0, 0, code
	}
	return count, p.bury(tick, out), api.OK
}

func (p *plain) bury(tick uint64, waiting []dead) int {
	lost := 0
	for n := 0; n < len(waiting); n++ {
		one := waiting[n]
		shop := p.piles[p.findPile(one.queue)].queue.Dead
		if shop == "" {
			continue
		}
		m, code := one.m, api.ErrRange
		if m.Hops < 4 {
			m.Hops++
			m.Due = 0
			var out []dead
			_, out, code = p.send(tick, shop, m)
			waiting = append(waiting, out...)
		}
		if code != api.OK {
			lost++
			p.note(tick, 1, one.queue)
		}
	}
	return lost
}

func (p *plain) lend(name string) (line.Item, api.Errno) {
	at := p.findPile(name)
	if at < 0 {
		return line.Item{}, api.ErrNone
	}
	for n, one := range p.piles[at].items {
		if !one.Lent {
			one.Lent = true
			p.piles[at].items[n] = one
			return one, api.OK
		}
	}
	return line.Item{}, api.ErrEmpty
}

func (p *plain) settle(d deed.Deed) (int, api.Errno) {
	at := p.findPile(d.Name)
	if at < 0 {
		return 0, api.ErrNone
	}
	x := &p.piles[at]
	n := slices.IndexFunc(x.items, func(one line.Item) bool { return one.Mail.ID == d.ID })
	if n < 0 {
		return 0, api.ErrNone
	}
	one := x.items[n]
	if !one.Lent {
		return 0, api.ErrOrder
	}
	if d.How == 2 {
		x.items[n].Lent, x.items[n].Again = false, true
		return 0, api.OK
	}
	x.items = slices.Delete(x.items, n, n+1)
	if d.How == 1 {
		return p.bury(d.Tick, []dead{{d.Name, one.Mail}}), api.OK
	}
	return 0, api.OK
}

func (p *plain) late(tick uint64) (int, int) {
	var all []dead
	for at := range p.piles {
		x := &p.piles[at]
		var left []line.Item
		for _, one := range x.items {
			if !one.Lent && one.Mail.Due > 0 && one.Mail.Due <= tick {
				all = append(all, dead{x.queue.Name, one.Mail})
			} else {
				left = append(left, one)
			}
		}
		x.items = left
	}
	return len(all), p.bury(tick, all)
}

func (p *plain) pull(d deed.Deed) (int, int, api.Errno) {
	from := int(d.From)
	if from >= len(p.p.Places) {
		return 0, 0, api.ErrNone
	}
	if !p.flows(from, p.place) && p.granted(from, p.place) < 0 {
		return 0, 0, api.ErrFlow
	}
	if d.Number <= p.seen[from] {
		return 0, 0, api.ErrOrder
	}
	p.seen[from] = d.Number
	if !p.flows(from, p.place) {
		p.note(d.Tick, 2, p.p.Places[from].Name)
	}
	count, lost, code := 0, 0, api.ErrRange
	if m := d.Mail; m.Hops < 4 {
		m.Hops++
		count, lost, code = p.put(d.Tick, m.Shop, m)
	}
	if code != api.OK {
		p.note(d.Tick, 1, d.Mail.Shop)
		return 0, 1, api.OK
	}
	return count, lost, api.OK
}

// written: all that a plain one has, in words.
func (p *plain) written() string {
	var o strings.Builder
	words := func(l ...string) { o.WriteString(strings.Join(l, " ") + "\n") }
	words("next", number(p.next), "room", strconv.Itoa(p.most-p.size()))
	for _, x := range p.shops {
		words("shop", x.Name, number(uint64(x.Sort)), x.To)
	}
	for _, x := range p.binds {
		words("bind", x.Shop, x.To, strconv.FormatBool(x.Up), strconv.Quote(x.Key), pairs(x.Want), strconv.FormatBool(x.All))
	}
	for _, x := range p.piles {
		words("queue", x.queue.Name, number(x.queue.Most), number(x.queue.Life), x.queue.Dead)
		for _, one := range x.items {
			words("item", letter(one.Mail), strconv.FormatBool(one.Lent), strconv.FormatBool(one.Again))
		}
	}
	for at, x := range p.climbs {
		if x.total > 0 {
			words("rise", strconv.Itoa(at), number(x.total))
		}
		for _, m := range x.kept {
			words("risen", letter(m))
		}
	}
	words("notes", number(p.told))
	for _, one := range p.notes {
		words("note", number(one.Tick), number(uint64(one.Kind)), strconv.Quote(one.Text))
	}
	for at, n := range p.seen {
		if n > 0 {
			words("seen", strconv.Itoa(at), number(n))
		}
	}
	for at, x := range p.spent {
		if x != (Spent{}) {
			words("spent", strconv.Itoa(at), number(x.Round), strconv.Itoa(x.Count))
		}
	}
	return o.String()
}

func number(n uint64) string { return strconv.FormatUint(n, 10) }

// pairs: a head in words.
func pairs(h []api.Pair) string {
	s, code := head.Bytes(h)
	return strconv.Quote(s) + number(uint64(code))
}

// letter: a message in words.
func letter(m api.Mail) string {
	s, code := mail.Bytes(m)
	return strconv.Quote(s) + number(uint64(code))
}

// asked: a plain one of what a store's parts tell, when they are asked.
func asked(x Parts) *plain {
	p := &plain{
		next: x.Stock.Next(), most: x.Stock.Room() + x.Stock.Size(), shops: x.Book.Shops(), binds: x.Book.Binds(),
		told: x.Notes.Total(), notes: x.Notes.All(), seen: x.Seen, spent: x.Spent,
	}
	for _, q := range x.Stock.Queues() {
		p.piles = append(p.piles, pile{q, x.Stock.Line(q.Name).All()})
	}
	for at := range p.climbs {
		p.climbs[at] = climb{x.Stock.Rise(at).Total(), x.Stock.Rise(at).All()}
	}
	return p
}

// tells: a store has in all what it should.
func tells(t *testing.T, what string, s Store, p *plain) {
	t.Helper()
	if got, want := asked(s.Parts()).written(), p.written(); got != want {
		t.Fatalf("%s: it has\n%s, wanted\n%s", what, got, want)
	}
}

// over: what was handed in or out is written over.
func over(h []api.Pair) {
	h = h[:cap(h)]
	for at := range h {
		h[at] = api.Pair{Key: "over", Kind: 1, Text: "written over"}
	}
}

// spare: the same pairs, with room for more.
func spare(h []api.Pair) []api.Pair {
	if h == nil {
		return nil
	}
	return append(make([]api.Pair, 0, len(h)+2), h...)
}

// sameResult: do two tell the same?
func sameResult(a, b Result) bool {
	return a.Count == b.Count && a.Lost == b.Lost && a.Item.Lent == b.Item.Lent && a.Item.Again == b.Item.Again &&
		mail.Same(a.Item.Mail, b.Item.Mail)
}

// twin is a store, and what it should be. Each deed is done to both: what comes of it is the same, and what was there stays as it was.
type twin struct {
	s    Store
	p    *plain
	seen map[string]int // how often each error of each kind was told, where that is counted
}

// begun: a new one.
func begun(p policy.Policy, place int) twin { return twin{s: New(p, place), p: blank(p, place)} }

// tries: a deed is done to both, whatever comes of it.
func (w twin) tries(t *testing.T, d deed.Deed) (twin, Result, api.Errno) {
	t.Helper()
	handed := d
	handed.Mail.Head, handed.Bind.Want = spare(d.Mail.Head), spare(d.Bind.Want)
	s, r, code := w.s.Do(handed)
	over(handed.Mail.Head)
	over(handed.Bind.Want)
	p, wantR, want := w.p.do(d)
	if code != want || !sameResult(r, wantR) {
		t.Fatalf("%+v: %+v, %d, wanted %+v, %d", d, r, code, wantR, want)
	}
	told := r
	told.Item.Mail.Head = slices.Clone(r.Item.Mail.Head)
	over(r.Item.Mail.Head)
	tells(t, "behind", s, p)
	tells(t, "as it was", w.s, w.p)
	if w.seen != nil {
		w.seen[strconv.Itoa(int(d.Kind))+" "+strconv.Itoa(int(code))]++
	}
	if !Same(s.Parts(), s.Parts()) || code != api.OK && !Same(s.Parts(), w.s.Parts()) {
		t.Fatalf("%+v: not the same", d)
	}
	return twin{s, p, w.seen}, told, code
}

// does: a deed is done that has no error: what comes of it.
func (w twin) does(t *testing.T, d deed.Deed) (twin, Result) {
	t.Helper()
	more, r, code := w.tries(t, d)
	if code != api.OK {
		t.Fatalf("%+v: %d", d, code)
	}
	return more, r
}

// all: deeds are done that have no errors.
func (w twin) all(t *testing.T, l ...deed.Deed) twin {
	t.Helper()
	for _, d := range l {
		w, _ = w.does(t, d)
	}
	return w
}

// refuses: a deed has that error, and nothing is done.
func (w twin) refuses(t *testing.T, d deed.Deed, want api.Errno) {
	t.Helper()
	more, r, code := w.tries(t, d)
	if code != want || !reflect.DeepEqual(r, Result{}) {
		t.Errorf("%+v: %+v, %d, wanted %d", d, r, code, want)
	}
	tells(t, "refused", more.s, w.p)
}

// counts: a deed is done that has no error, of which so many come, and so many are lost.
func (w twin) counts(t *testing.T, d deed.Deed, count, lost int) twin {
	t.Helper()
	more, r := w.does(t, d)
	if r.Count != count || r.Lost != lost || !sameResult(r, Result{Count: count, Lost: lost}) {
		t.Fatalf("%+v: %+v, wanted a Count of %d, and %d lost", d, r, count, lost)
	}
	return more
}

// with: a store and its plain one, both of other parts; the stock's bytes and notes are read of theirs.
func (w twin) with(t *testing.T, how func(*plain)) twin {
	t.Helper()
	p := w.p.clone()
	how(p)
	x := w.s.Parts()
	x.Seen, x.Spent = p.seen, p.spent
	o := octet.Out{}.Num(p.told, 8).Num(uint64(len(p.notes)), 1)
	for _, one := range p.notes {
		o = o.Num(one.Tick, 8).Num(uint64(one.Kind), 1).Text(one.Text)
	}
	x.Notes = notes.Read(octet.New(o.String()))
	text := x.Stock.Bytes()
	var code api.Errno
	if x.Stock, code = stock.Of(octet.Out{}.Num(p.next, 8).String()+text[8:], p.most); code != api.OK {
		t.Fatalf("no stock: %d", code)
	}
	more := twin{With(p.p, p.place, x), p, w.seen}
	tells(t, "with other parts", more.s, more.p)
	return more
}

// queue: what is in one, in short: of each message its Shop, its Body, its Hops and its Due.
func (w twin) queue(name string) string {
	var l []string
	for _, one := range w.s.Parts().Stock.Line(name).All() {
		l = append(l, one.Mail.Shop+" "+one.Mail.Body+" "+number(uint64(one.Mail.Hops))+" "+number(one.Mail.Due))
	}
	return strings.Join(l, ", ")
}

// rise: what is in one, in short.
func (w twin) rise(place int) string {
	var l []string
	for _, m := range w.s.Parts().Stock.Rise(place).All() {
		l = append(l, m.Shop+" "+m.Body+" "+number(uint64(m.Hops))+" "+number(m.Due))
	}
	return strings.Join(l, ", ")
}

// noted: what was noted, in short: of each note the tick, the kind and the text.
func (w twin) noted() string {
	var l []string
	for _, one := range w.s.Parts().Notes.All() {
		l = append(l, strings.TrimRight(number(one.Tick)+" "+number(uint64(one.Kind))+" "+one.Text, " "))
	}
	return strings.Join(l, ", ")
}

// is: something in short is as it should be.
func is(t *testing.T, got, want string) {
	t.Helper()
	if got != want {
		t.Errorf("%q, wanted %q", got, want)
	}
}
