package shell_test

import (
	"bytes"
	"math"
	"reflect"
	"testing"

	"farebox/api"
	"farebox/card"
	"farebox/shell"
)

const (
	width = 32
	whole = 512
)

// sum is the checksum by another way: with a table of what each half byte does.
func sum(b []byte) int {
	var table [16]int
	for i := range table {
		s := i << 12
		for range 4 {
			s = s<<1 ^ s>>15*0x11021
		}
		table[i] = s
	}
	s := 0xFFFF
	for _, x := range b {
		s = s<<4&0xFFFF ^ table[s>>12^int(x)>>4]
		s = s<<4&0xFFFF ^ table[s>>12^int(x)&15]
	}
	return s
}

// sealed is a sector that begins with these bytes, with its checksum.
func sealed(b ...byte) []byte {
	s := make([]byte, 30)
	copy(s, b)
	n := sum(s)
	return append(s, byte(n>>8), byte(n))
}

func shellOf(id, issuer int) []byte {
	return sealed(0x46, 0x42, byte(id>>8), byte(id), byte(issuer))
}

func copyOf(seq int, entries ...api.Entry) []byte {
	b := []byte{byte(seq >> 8), byte(seq), byte(len(entries))}
	for _, e := range entries {
		b = append(b, byte(e.Kind), byte(e.Owner), byte(e.Id>>8), byte(e.Id), byte(e.Slot))
	}
	return sealed(b...)
}

// said is what the bytes of a copy say, by another way than the program's: byte by byte.
func said(s []byte) (int, []api.Entry, bool) {
	if n := sum(s[:30]); int(s[30]) != n>>8 || int(s[31]) != n&255 {
		return 0, nil, false
	}
	seq, count := int(s[0])*256+int(s[1]), int(s[2])
	if seq == 0 || count > 5 {
		return 0, nil, false
	}
	slots, names := map[byte]bool{}, map[[3]byte]bool{}
	var entries []api.Entry
	for i := 3; i < 30; i++ {
		if i >= 3+5*count {
			if s[i] != 0 {
				return 0, nil, false
			}
			continue
		}
		if (i-3)%5 != 0 {
			continue
		}
		kind, owner, id, slot := s[i], s[i+1], int(s[i+2])*256+int(s[i+3]), s[i+4]
		name := [3]byte{owner, s[i+2], s[i+3]}
		if kind < 1 || kind > 4 || owner < 1 || owner > 4 || id == 0 || slot > 5 || slots[slot] || names[name] {
			return 0, nil, false
		}
		slots[slot], names[name] = true, true
		entries = append(entries, api.Entry{Kind: api.Kind(kind), Owner: int(owner), Id: id, Slot: int(slot)})
	}
	return seq, entries, true
}

// view is what an image says, by that way.
func view(image []byte) (shell.View, api.Errno) {
	s := image[:32]
	if n := sum(s[:30]); int(s[30]) != n>>8 || int(s[31]) != n&255 {
		return shell.View{}, api.ErrSum
	}
	id, issuer := int(s[2])*256+int(s[3]), int(s[4])
	if s[0] != 0x46 || s[1] != 0x42 || id == 0 || issuer < 1 || issuer > 4 || !bytes.Equal(s[5:30], make([]byte, 25)) {
		return shell.View{}, api.ErrForm
	}
	seq1, entries1, ok1 := said(image[32:64])
	seq2, entries2, ok2 := said(image[64:96])
	switch {
	case ok1 && (!ok2 || seq1 >= seq2):
		return shell.View{Card: id, Issuer: issuer, Seq: seq1, Copy: 1, Entries: entries1}, api.OK
	case ok2:
		return shell.View{Card: id, Issuer: issuer, Seq: seq2, Copy: 2, Entries: entries2}, api.OK
	}
	return shell.View{}, api.ErrNone
}

// change is a sector that is to be written.
type change struct {
	sector int
	bytes  []byte
}

// stored is which sectors a Store writes, and what it returns with power for all of them.
func stored(v shell.View, e api.Entry, body []byte) ([]change, shell.View, api.Errno) {
	if e.Kind < 1 || e.Kind > 4 || e.Owner < 1 || e.Owner > 4 || e.Id < 1 || e.Id > 65535 {
		return nil, shell.View{}, api.ErrArg
	}
	if len(body) > 64 {
		return nil, shell.View{}, api.ErrLong
	}
	at := len(v.Entries)
	taken := [6]bool{}
	for i, x := range v.Entries {
		taken[x.Slot] = true
		if x.Owner == e.Owner && x.Id == e.Id {
			at = i
		}
	}
	if at == 5 {
		return nil, shell.View{}, api.ErrFull
	}
	if v.Seq == 65535 {
		return nil, shell.View{}, api.ErrOver
	}
	e.Slot = 0
	for taken[e.Slot] {
		e.Slot++
	}
	entries := make([]api.Entry, max(at+1, len(v.Entries)))
	copy(entries, v.Entries)
	entries[at] = e
	full := make([]byte, 64)
	copy(full, body)
	w := shell.View{Card: v.Card, Issuer: v.Issuer, Seq: v.Seq + 1, Copy: 3 - v.Copy, Entries: entries}
	return []change{{3 + 2*e.Slot, full[:32]}, {4 + 2*e.Slot, full[32:]}, {w.Copy, copyOf(w.Seq, entries...)}}, w, api.OK
}

// dropped is the same of a Drop.
func dropped(v shell.View, owner, id int) ([]change, shell.View, api.Errno) {
	var entries []api.Entry
	for _, x := range v.Entries {
		if x.Owner != owner || x.Id != id {
			entries = append(entries, x)
		}
	}
	if len(entries) == len(v.Entries) {
		return nil, shell.View{}, api.ErrNone
	}
	if v.Seq == 65535 {
		return nil, shell.View{}, api.ErrOver
	}
	w := shell.View{Card: v.Card, Issuer: v.Issuer, Seq: v.Seq + 1, Copy: 3 - v.Copy, Entries: entries}
	return []change{{w.Copy, copyOf(w.Seq, entries...)}}, w, api.OK
}

// after is the image with so many of the changes made.
func after(image []byte, changes []change) []byte {
	b := bytes.Clone(image)
	for _, x := range changes {
		copy(b[width*x.sector:], x.bytes)
	}
	return b
}

// dice are numbers made by a fixed rule.
type dice uint64

func (d *dice) below(n int) int {
	*d = *d*6364136223846793005 + 1442695040888963407
	return int(uint64(*d)>>32) % n
}

func (d *dice) bytes(n int) []byte {
	b := make([]byte, n)
	for i := range b {
		b[i] = byte(d.below(256))
	}
	return b
}

// filled are bytes of which no two neighbours are the same, so that a shift of them shows.
func filled(n, first int) []byte {
	b := make([]byte, n)
	for i := range b {
		b[i] = byte(first + 7*i)
	}
	return b
}

func same(a, b shell.View) bool {
	if len(a.Entries) == 0 && len(b.Entries) == 0 {
		a.Entries, b.Entries = nil, nil
	}
	return reflect.DeepEqual(a, b)
}

// cardOf is a card with an image of which the first sectors are these.
func cardOf(sectors ...[]byte) *card.Card {
	image := filled(whole, 90)
	for i, s := range sectors {
		copy(image[width*i:], s)
	}
	c := card.New()
	c.Load(image)
	return c
}

// hasPower counts the writes that a card can still perform, at most so many.
func hasPower(c *card.Card, most int) int {
	b, _ := c.Read(0)
	for n := range most {
		if c.Write(0, b) != api.OK {
			return n
		}
	}
	return most
}

func isView(t *testing.T, promise string, c *card.Card, want shell.View, we api.Errno) {
	t.Helper()
	if got, e := shell.Read(c); !same(got, want) || e != we {
		t.Errorf("%s: Read: %v, %d; should be %v, %d", promise, got, e, want, we)
	}
}

func isImage(t *testing.T, promise string, c *card.Card, want []byte) {
	t.Helper()
	if got := c.Image(); !bytes.Equal(got, want) {
		t.Errorf("%s: the card is %X; should be %X", promise, got, want)
	}
}

func isFormat(t *testing.T, c *card.Card, id, issuer int, want api.Errno) {
	t.Helper()
	if e := shell.Format(c, id, issuer); e != want {
		t.Errorf("P7.1: Format(%d, %d): %d; should be %d", id, issuer, e, want)
	}
}

func isBody(t *testing.T, promise string, c *card.Card, slot int, want []byte, we api.Errno) {
	t.Helper()
	if got, e := shell.Body(c, slot); !bytes.Equal(got, want) || e != we {
		t.Errorf("%s: Body(%d): %X, %d; should be %X, %d", promise, slot, got, e, want, we)
	}
}

// isStore stores on the card, against the other way: the result, and each byte of the card. Power below 0 is unlimited.
func isStore(t *testing.T, c *card.Card, v shell.View, e api.Entry, body []byte, power int) shell.View {
	t.Helper()
	image := c.Image()
	changes, want, we := stored(v, e, body)
	if power >= 0 && power < len(changes) {
		changes, want, we = changes[:power], shell.View{}, api.ErrTorn
	}
	c.Power(power)
	got, ge := shell.Store(c, v, e, body)
	if !same(got, want) || ge != we {
		t.Errorf("P7.4: Store(%v, %v, %d bytes) with power %d: %v, %d; should be %v, %d", v, e, len(body), power, got, ge, want, we)
	}
	isImage(t, "P7.4", c, after(image, changes))
	return got
}

// isDrop is the same of Drop.
func isDrop(t *testing.T, c *card.Card, v shell.View, owner, id, power int) shell.View {
	t.Helper()
	image := c.Image()
	changes, want, we := dropped(v, owner, id)
	if power == 0 && we == api.OK {
		changes, want, we = nil, shell.View{}, api.ErrTorn
	}
	c.Power(power)
	got, ge := shell.Drop(c, v, owner, id)
	if !same(got, want) || ge != we {
		t.Errorf("P7.5: Drop(%v, %d, %d) with power %d: %v, %d; should be %v, %d", v, owner, id, power, got, ge, want, we)
	}
	isImage(t, "P7.5", c, after(image, changes))
	return got
}

// The chapter's examples.
func TestExamples(t *testing.T) {
	c := card.New()
	isView(t, "P7.2", c, shell.View{}, api.ErrSum)
	isFormat(t, c, 7, 1, api.OK)
	v := shell.View{Card: 7, Issuer: 1, Seq: 1, Copy: 1}
	isView(t, "P7.2", c, v, api.OK)
	purse := api.Entry{Kind: api.Purse, Owner: 2, Id: 9}
	v = isStore(t, c, v, purse, []byte{1}, -1)
	isView(t, "P7.4", c, shell.View{Card: 7, Issuer: 1, Seq: 2, Copy: 2, Entries: []api.Entry{{Kind: api.Purse, Owner: 2, Id: 9, Slot: 0}}}, api.OK)
	v = isStore(t, c, v, purse, []byte{2}, -1)
	third := shell.View{Card: 7, Issuer: 1, Seq: 3, Copy: 1, Entries: []api.Entry{{Kind: api.Purse, Owner: 2, Id: 9, Slot: 1}}}
	isView(t, "P7.4", c, third, api.OK)
	if n := v.Free(); n != 0 {
		t.Errorf("P7.3: Free: %d", n)
	}
	isBody(t, "P7.4", c, 1, append([]byte{2}, make([]byte, 63)...), api.OK)
	isStore(t, c, v, purse, []byte{3}, 2)
	isView(t, "P7.6", c, third, api.OK)
	isDrop(t, c, v, 2, 9, -1)
	isView(t, "P7.5", c, shell.View{Card: 7, Issuer: 1, Seq: 4, Copy: 2}, api.OK)
}

// P7.1: the bytes of a card that was just made, written out.
func TestFormatBytes(t *testing.T) {
	c := cardOf()
	want := filled(whole, 90)
	isFormat(t, c, 0x1234, 3, api.OK)
	first := append([]byte{0x46, 0x42, 0x12, 0x34, 3}, make([]byte, 25)...)
	first = append(first, byte(sum(first)>>8), byte(sum(first)))
	second := append([]byte{0, 1}, make([]byte, 28)...)
	second = append(second, byte(sum(second)>>8), byte(sum(second)))
	copy(want, first)
	copy(want[32:], second)
	copy(want[64:], make([]byte, 32))
	isImage(t, "P7.1", c, want)
	if n := sum([]byte("123456789")); n != 0x29B1 {
		t.Errorf("P7.1: the test's own checksum: %X", n)
	}
}

// P7.1: every number that is in its range, and those beside it; a card that is not made is left alone, with its power.
func TestFormatRanges(t *testing.T) {
	for _, id := range []int{math.MinInt, -65535, -1, 0, 1, 2, 255, 256, 257, 65534, 65535, 65536, 65537, 1 << 32, 1<<32 + 1, math.MaxInt} {
		for _, issuer := range []int{math.MinInt, -1, 0, 1, 2, 3, 4, 5, 6, 256, 257, 1 << 32, 1<<32 + 1, math.MaxInt} {
			c := cardOf()
			c.Power(5)
			isFormat(t, nil, id, issuer, api.ErrArg)
			if id < 1 || id > 65535 || issuer < 1 || issuer > 4 {
				isFormat(t, c, id, issuer, api.ErrArg)
				isImage(t, "P7.1", c, filled(whole, 90))
				if n := hasPower(c, 9); n != 5 {
					t.Errorf("P7.1: Format(%d, %d) left power for %d", id, issuer, n)
				}
				continue
			}
			isFormat(t, c, id, issuer, api.OK)
			isView(t, "P7.1", c, shell.View{Card: id, Issuer: issuer, Seq: 1, Copy: 1}, api.OK)
			if n := hasPower(c, 9); n != 2 {
				t.Errorf("P7.1: Format(%d, %d) left power for %d", id, issuer, n)
			}
		}
	}
}

// P7.1: the sectors are written in this order, 1, 2, 0, up to the first error.
func TestFormatOrder(t *testing.T) {
	changes := []change{{1, copyOf(1)}, {2, make([]byte, 32)}, {0, shellOf(700, 2)}}
	for power := range 5 {
		c := cardOf(shellOf(1, 1), copyOf(9), copyOf(10))
		image := c.Image()
		c.Power(power)
		want := api.OK
		if power < 3 {
			want = api.ErrTorn
		}
		isFormat(t, c, 700, 2, want)
		isImage(t, "P7.1", c, after(image, changes[:min(power, 3)]))
	}
	c := card.New()
	c.Power(0)
	isFormat(t, c, 0, 2, api.ErrArg)
	isFormat(t, c, 1, 2, api.ErrTorn)
}

// P7.1: a card that is made again has no entries; its slots' bytes stay.
func TestFormatAgain(t *testing.T) {
	c := card.New()
	isFormat(t, c, 7, 1, api.OK)
	v, _ := shell.Read(c)
	for i := range 5 {
		v = isStore(t, c, v, api.Entry{Kind: api.Pass, Owner: 1, Id: 1 + i}, filled(64, i), -1)
	}
	isFormat(t, c, 8, 4, api.OK)
	isView(t, "P7.1", c, shell.View{Card: 8, Issuer: 4, Seq: 1, Copy: 1}, api.OK)
	for i := range 5 {
		isBody(t, "P7.1", c, i, filled(64, i), api.OK)
	}
}

// P7.2: a change of any bit of sector 0 is ErrSum; with a right checksum, ErrForm or another shell.
func TestReadShell(t *testing.T) {
	good := shellOf(0x0907, 2)
	for bit := range 256 {
		s := bytes.Clone(good)
		s[bit/8] ^= 0x80 >> (bit % 8)
		isView(t, "P7.2", cardOf(s, copyOf(1)), shell.View{}, api.ErrSum)
		isView(t, "P7.2", cardOf(s), shell.View{}, api.ErrSum)
	}
	for at := range 30 {
		for x := range 256 {
			s := bytes.Clone(good[:30])
			s[at] = byte(x)
			s = sealed(s...)
			want, we := shell.View{}, api.ErrForm
			id, issuer := int(s[2])*256+int(s[3]), int(s[4])
			if bytes.Equal(s[:30], good[:30]) || at == 2 || at == 3 || at == 4 && x >= 1 && x <= 4 {
				want, we = shell.View{Card: id, Issuer: issuer, Seq: 1, Copy: 1}, api.OK
			}
			isView(t, "P7.2", cardOf(s, copyOf(1)), want, we)
		}
	}
	isView(t, "P7.2", cardOf(shellOf(0, 2), copyOf(1)), shell.View{}, api.ErrForm)
	isView(t, "P7.2", cardOf(shellOf(1, 1), copyOf(1)), shell.View{Card: 1, Issuer: 1, Seq: 1, Copy: 1}, api.OK)
	isView(t, "P7.2", cardOf(shellOf(65535, 4), copyOf(1)), shell.View{Card: 65535, Issuer: 4, Seq: 1, Copy: 1}, api.OK)
}

// P7.2: of several errors the first one of its list counts.
func TestReadErrors(t *testing.T) {
	torn := bytes.Clone(shellOf(0, 0))
	torn[31] ^= 1
	isView(t, "P7.2", nil, shell.View{}, api.ErrArg)
	isView(t, "P7.2", card.New(), shell.View{}, api.ErrSum)
	isView(t, "P7.2", cardOf(torn), shell.View{}, api.ErrSum)
	isView(t, "P7.2", cardOf(torn, copyOf(3), copyOf(4)), shell.View{}, api.ErrSum)
	isView(t, "P7.2", cardOf(shellOf(3, 5)), shell.View{}, api.ErrForm)
	isView(t, "P7.2", cardOf(shellOf(3, 0), copyOf(3), copyOf(4)), shell.View{}, api.ErrForm)
	isView(t, "P7.2", cardOf(sealed()), shell.View{}, api.ErrForm)
	isView(t, "P7.2", cardOf(shellOf(3, 4)), shell.View{}, api.ErrNone)
	isView(t, "P7.2", cardOf(shellOf(3, 4), make([]byte, 32), make([]byte, 32)), shell.View{}, api.ErrNone)
}

// P7.2: the valid copy with the greater number counts, and of two that are the same the first one.
func TestReadCopies(t *testing.T) {
	one := api.Entry{Kind: api.Pass, Owner: 1, Id: 1, Slot: 1}
	two := api.Entry{Kind: api.Ticket, Owner: 4, Id: 65535, Slot: 5}
	for _, x := range []struct{ first, second, copy int }{
		{1, 2, 2}, {2, 1, 1}, {1, 1, 1}, {65535, 65535, 1}, {65534, 65535, 2}, {65535, 1, 1}, {1, 65535, 2},
		{255, 256, 2}, {256, 255, 1}, {0x0102, 0x0201, 2}, {0x8000, 0x7FFF, 1}, {0, 1, 2}, {1, 0, 1}, {0, 65535, 2}, {0, 0, 0},
	} {
		c := cardOf(shellOf(5, 2), copyOf(x.first, one), copyOf(x.second, two))
		want, we := shell.View{Card: 5, Issuer: 2, Seq: x.first, Copy: 1, Entries: []api.Entry{one}}, api.OK
		if x.copy == 2 {
			want.Seq, want.Copy, want.Entries = x.second, 2, []api.Entry{two}
		}
		if x.copy == 0 {
			want, we = shell.View{}, api.ErrNone
		}
		isView(t, "P7.2", c, want, we)
	}
}

// P7.2: what a copy says counts only if it is valid, in either sector.
func TestValidCopy(t *testing.T) {
	a, b := api.Entry{Kind: 1, Owner: 2, Id: 9, Slot: 0}, api.Entry{Kind: 2, Owner: 3, Id: 10, Slot: 5}
	for _, x := range []struct {
		name  string
		entry api.Entry
		ok    bool
	}{
		{"kind 0", api.Entry{Kind: 0, Owner: 1, Id: 1, Slot: 1}, false},
		{"kind 1", api.Entry{Kind: 1, Owner: 1, Id: 1, Slot: 1}, true},
		{"kind 4", api.Entry{Kind: 4, Owner: 1, Id: 1, Slot: 1}, true},
		{"kind 5", api.Entry{Kind: 5, Owner: 1, Id: 1, Slot: 1}, false},
		{"kind 255", api.Entry{Kind: 255, Owner: 1, Id: 1, Slot: 1}, false},
		{"owner 0", api.Entry{Kind: 1, Owner: 0, Id: 1, Slot: 1}, false},
		{"owner 4", api.Entry{Kind: 1, Owner: 4, Id: 1, Slot: 1}, true},
		{"owner 5", api.Entry{Kind: 1, Owner: 5, Id: 1, Slot: 1}, false},
		{"owner 255", api.Entry{Kind: 1, Owner: 255, Id: 1, Slot: 1}, false},
		{"id 0", api.Entry{Kind: 1, Owner: 1, Id: 0, Slot: 1}, false},
		{"id 256", api.Entry{Kind: 1, Owner: 1, Id: 256, Slot: 1}, true},
		{"id 65535", api.Entry{Kind: 1, Owner: 1, Id: 65535, Slot: 1}, true},
		{"slot 4", api.Entry{Kind: 1, Owner: 1, Id: 1, Slot: 4}, true},
		{"slot 6", api.Entry{Kind: 1, Owner: 1, Id: 1, Slot: 6}, false},
		{"slot 255", api.Entry{Kind: 1, Owner: 1, Id: 1, Slot: 255}, false},
		{"slot of the first", api.Entry{Kind: 1, Owner: 1, Id: 1, Slot: 0}, false},
		{"slot of the second", api.Entry{Kind: 1, Owner: 1, Id: 1, Slot: 5}, false},
		{"name of the first", api.Entry{Kind: 4, Owner: 2, Id: 9, Slot: 1}, false},
		{"name of the second", api.Entry{Kind: 4, Owner: 3, Id: 10, Slot: 1}, false},
		{"owner of one, id of the other", api.Entry{Kind: 1, Owner: 2, Id: 10, Slot: 1}, true},
		{"owner alone", api.Entry{Kind: 1, Owner: 2, Id: 1, Slot: 1}, true},
		{"id alone", api.Entry{Kind: 1, Owner: 4, Id: 9, Slot: 1}, true},
	} {
		for at := range 3 {
			entries := []api.Entry{a, b}
			entries = append(entries[:at:at], append([]api.Entry{x.entry}, entries[at:]...)...)
			isCopy(t, x.name, copyOf(7, entries...), entries, x.ok)
		}
	}
	isCopy(t, "no entries", copyOf(7), nil, true)
	isCopy(t, "number 0", copyOf(0, a, b), nil, false)
}

// isCopy looks at a copy with the number 7 in both sectors, beside one that is valid and one that is not.
func isCopy(t *testing.T, name string, s []byte, entries []api.Entry, ok bool) {
	t.Helper()
	bad := filled(32, 1)
	v := shell.View{Card: 1, Issuer: 1, Seq: 7, Copy: 1, Entries: entries}
	we := api.OK
	other := shell.View{Card: 1, Issuer: 1, Seq: 6, Copy: 2}
	if !ok {
		v, we = shell.View{}, api.ErrNone
	} else {
		other = v
	}
	t.Log(name)
	isView(t, "P7.2", cardOf(shellOf(1, 1), s, bad), v, we)
	isView(t, "P7.2", cardOf(shellOf(1, 1), s, copyOf(6)), other, api.OK)
	v.Copy, other.Copy = 2*v.Copy, 2
	if !ok {
		other.Copy = 1
	}
	isView(t, "P7.2", cardOf(shellOf(1, 1), bad, s), v, we)
	isView(t, "P7.2", cardOf(shellOf(1, 1), copyOf(6), s), other, api.OK)
}

// P7.2: of a copy each bit counts, and behind the entries all bytes are zero.
func TestValidCopyBytes(t *testing.T) {
	var entries []api.Entry
	for n := range 6 {
		good := copyOf(7, entries...)
		for bit := range 256 {
			s := bytes.Clone(good)
			s[bit/8] ^= 0x80 >> (bit % 8)
			isCopy(t, "a changed bit", s, nil, false)
		}
		for at := 3 + 5*n; at < 30; at++ {
			for _, x := range []byte{1, 128, 255} {
				s := bytes.Clone(good[:30])
				s[at] = x
				isCopy(t, "not zero behind", sealed(s...), nil, false)
			}
		}
		for count := range 256 {
			if count != n {
				s := bytes.Clone(good[:30])
				s[2] = byte(count)
				isCopy(t, "another number of entries", sealed(s...), nil, false)
			}
		}
		entries = append(entries, api.Entry{Kind: api.Kind(1 + n%4), Owner: 1 + n%3, Id: 256*n + 1, Slot: 5 - n})
	}
}

// P7.2: copies of any bytes, near to what is valid, against the other way.
func TestManyCopies(t *testing.T) {
	d := dice(7)
	count := map[api.Errno]int{}
	for range 60000 {
		c := cardOf(d.shell(), d.copy(), d.copy())
		want, we := view(c.Image())
		isView(t, "P7.2", c, want, we)
		count[we]++
		if we == api.OK {
			count[api.Errno(100+want.Copy)]++
		}
	}
	for _, e := range []api.Errno{api.OK, api.ErrSum, api.ErrForm, api.ErrNone, 101, 102} {
		if count[e] < 1000 {
			t.Errorf("P7.2: outcome %d came %d times", e, count[e])
		}
	}
}

// shell is a shell, mostly.
func (d *dice) shell() []byte {
	s := shellOf(1+d.below(65535), 1+d.below(4))
	switch d.below(10) {
	case 0:
		s[d.below(32)] ^= byte(1 + d.below(255))
	case 1:
		s[d.below(30)] ^= byte(1 + d.below(255))
		s = sealed(s[:30]...)
	}
	return s
}

// copy is a copy of a directory whose numbers are mostly right.
func (d *dice) copy() []byte {
	n := d.below(6)
	b := []byte{0, byte(d.below(20)), byte(n)}
	for range n {
		b = append(b, byte(d.below(30)%4+1), byte(d.below(4)+1), 0, byte(d.below(40)), byte(d.below(6)))
	}
	if d.below(4) == 0 {
		at := d.below(len(b))
		b[at] = byte(d.below(8))
	}
	s := sealed(b...)
	if d.below(10) == 0 {
		s[d.below(32)] ^= byte(1 << d.below(8))
	}
	return s
}

// P7.2: each slot's 64 bytes, of a card of any bytes; no others.
func TestBody(t *testing.T) {
	c := cardOf()
	image := c.Image()
	c.Power(0)
	for slot := range 6 {
		isBody(t, "P7.2", c, slot, image[96+64*slot:160+64*slot], api.OK)
		isBody(t, "P7.2", nil, slot, nil, api.ErrArg)
	}
	for _, slot := range []int{math.MinInt, math.MinInt + 1, -2, -1, 6, 7, 8, 255, 256, 1 << 32, 1 << 62, 1 << 63 >> 1, math.MaxInt} {
		isBody(t, "P7.2", c, slot, nil, api.ErrArg)
		isBody(t, "P7.2", nil, slot, nil, api.ErrArg)
	}
	isImage(t, "P7.2", c, image)
}

// P7.2: reading needs no power, takes none, and changes nothing.
func TestReadWithoutPower(t *testing.T) {
	c := cardOf(shellOf(2, 2), copyOf(5))
	image := c.Image()
	c.Power(0)
	isView(t, "P7.2", c, shell.View{Card: 2, Issuer: 2, Seq: 5, Copy: 1}, api.OK)
	c.Power(3)
	for range 5 {
		isView(t, "P7.2", c, shell.View{Card: 2, Issuer: 2, Seq: 5, Copy: 1}, api.OK)
		isBody(t, "P7.2", c, 0, image[96:160], api.OK)
	}
	isImage(t, "P7.2", c, image)
	if n := hasPower(c, 9); n != 3 {
		t.Errorf("P7.2: reading left power for %d", n)
	}
}

// P7.3: the first entry with both numbers.
func TestAt(t *testing.T) {
	v := shell.View{Entries: []api.Entry{{Owner: 1, Id: 2}, {Owner: 2, Id: 1}, {Kind: 3, Owner: 2, Id: 2, Slot: 4}, {Owner: 2, Id: 1, Slot: 1}, {Owner: -3, Id: math.MaxInt}}}
	for _, x := range []struct{ owner, id, want int }{
		{1, 2, 0}, {2, 1, 1}, {2, 2, 2}, {-3, math.MaxInt, 4}, {1, 1, -1}, {0, 0, -1}, {1, 0, -1}, {0, 2, -1}, {3, 1, -1}, {math.MinInt, math.MaxInt, -1}, {-3, -1, -1},
	} {
		if got := v.At(x.owner, x.id); got != x.want {
			t.Errorf("P7.3: At(%d, %d): %d; should be %d", x.owner, x.id, got, x.want)
		}
	}
	if got := (shell.View{}).At(0, 0); got != -1 {
		t.Errorf("P7.3: At of no entries: %d", got)
	}
	if got := (shell.View{Entries: []api.Entry{{}}}).At(0, 0); got != 0 {
		t.Errorf("P7.3: At of an entry of zeros: %d", got)
	}
}

// P7.3: the least slot of all sets of taken ones, in any order and more than once.
func TestFree(t *testing.T) {
	for set := range 64 {
		var up, down []api.Entry
		want := -1
		for slot := 5; slot >= 0; slot-- {
			if set>>slot&1 == 0 {
				want = slot
				continue
			}
			down = append(down, api.Entry{Slot: slot}, api.Entry{Slot: slot})
			up = append([]api.Entry{{Slot: slot}}, up...)
		}
		strange := append([]api.Entry{{Slot: -1}, {Slot: 6}, {Slot: math.MinInt}, {Slot: math.MaxInt}}, up...)
		for _, entries := range [][]api.Entry{up, down, strange} {
			if got := (shell.View{Entries: entries}).Free(); got != want {
				t.Errorf("P7.3: Free of %v: %d; should be %d", entries, got, want)
			}
		}
	}
}

// full is a card with five products, and its view.
func full(t *testing.T, seq int) (*card.Card, shell.View) {
	t.Helper()
	entries := []api.Entry{{Kind: 1, Owner: 1, Id: 1, Slot: 4}, {Kind: 2, Owner: 1, Id: 2, Slot: 0}, {Kind: 3, Owner: 2, Id: 1, Slot: 5}, {Kind: 4, Owner: 4, Id: 65535, Slot: 2}, {Kind: 1, Owner: 3, Id: 256, Slot: 3}}
	c := cardOf(shellOf(77, 3), copyOf(seq-1), copyOf(seq, entries...))
	v, e := shell.Read(c)
	if e != api.OK || v.Seq != seq || v.Copy != 2 || len(v.Entries) != 5 {
		t.Fatalf("P7.2: Read: %v, %d", v, e)
	}
	return c, v
}

// P7.4: the errors in their order, each without a write and without taking power.
func TestStoreErrors(t *testing.T) {
	c, v := full(t, 10)
	last, top := full(t, 65535)
	long := make([]byte, 65)
	other := api.Entry{Kind: 1, Owner: 4, Id: 4}
	for _, x := range []struct {
		c    *card.Card
		v    shell.View
		e    api.Entry
		body []byte
		want api.Errno
	}{
		{nil, v, v.Entries[0], nil, api.ErrArg},
		{nil, top, other, long, api.ErrArg},
		{c, v, api.Entry{Kind: 0, Owner: 1, Id: 1}, nil, api.ErrArg},
		{c, v, api.Entry{Kind: 5, Owner: 1, Id: 1}, nil, api.ErrArg},
		{c, v, api.Entry{Kind: -1, Owner: 1, Id: 1}, nil, api.ErrArg},
		{c, v, api.Entry{Kind: math.MaxInt, Owner: 1, Id: 1}, nil, api.ErrArg},
		{c, v, api.Entry{Kind: 257, Owner: 1, Id: 1}, nil, api.ErrArg},
		{c, v, api.Entry{Kind: 1, Owner: 0, Id: 1}, nil, api.ErrArg},
		{c, v, api.Entry{Kind: 1, Owner: 5, Id: 1}, nil, api.ErrArg},
		{c, v, api.Entry{Kind: 1, Owner: -1, Id: 1}, nil, api.ErrArg},
		{c, v, api.Entry{Kind: 1, Owner: 257, Id: 1}, nil, api.ErrArg},
		{c, v, api.Entry{Kind: 1, Owner: 1, Id: 0}, nil, api.ErrArg},
		{c, v, api.Entry{Kind: 1, Owner: 1, Id: -1}, nil, api.ErrArg},
		{c, v, api.Entry{Kind: 1, Owner: 1, Id: 65536}, nil, api.ErrArg},
		{c, v, api.Entry{Kind: 1, Owner: 1, Id: 65537}, nil, api.ErrArg},
		{last, top, api.Entry{Kind: 1, Owner: 4, Id: math.MinInt}, long, api.ErrArg},
		{last, top, other, long, api.ErrLong},
		{c, v, v.Entries[0], long, api.ErrLong},
		{c, v, v.Entries[0], make([]byte, 1<<16), api.ErrLong},
		{last, top, other, nil, api.ErrFull},
		{c, v, other, nil, api.ErrFull},
		{c, v, api.Entry{Kind: 1, Owner: 2, Id: 2}, nil, api.ErrFull},
		{last, top, top.Entries[0], nil, api.ErrOver},
		{last, top, api.Entry{Kind: 3, Owner: 3, Id: 256, Slot: 1}, make([]byte, 64), api.ErrOver},
	} {
		was := []byte(nil)
		if x.c != nil {
			was = x.c.Image()
			x.c.Power(4)
		}
		if got, e := shell.Store(x.c, x.v, x.e, x.body); !same(got, shell.View{}) || e != x.want {
			t.Errorf("P7.4: Store(%v, %d bytes): %v, %d; should be %d", x.e, len(x.body), got, e, x.want)
		}
		if x.c == nil {
			continue
		}
		if n := hasPower(x.c, 9); n != 4 {
			t.Errorf("P7.4: Store(%v) left power for %d", x.e, n)
		}
		if shell.Store(x.c, x.v, x.e, x.body); !bytes.Equal(x.c.Image(), was) {
			t.Errorf("P7.4: Store(%v) changed the card", x.e)
		}
	}
}

// P7.4: without a free slot nothing is written. Only a view that no card has comes to this.
func TestStoreNoSlot(t *testing.T) {
	c, v := full(t, 10)
	image := c.Image()
	v.Entries = append(v.Entries, api.Entry{Kind: 1, Owner: 4, Id: 1, Slot: 1})
	if got, e := shell.Store(c, v, v.Entries[0], nil); !same(got, shell.View{}) || e != api.ErrNone {
		t.Errorf("P7.4: Store without a free slot: %v, %d", got, e)
	}
	isImage(t, "P7.4", c, image)
	v.Seq = 65535
	if got, e := shell.Store(c, v, v.Entries[0], nil); !same(got, shell.View{}) || e != api.ErrOver {
		t.Errorf("P7.4: Store without a free slot and number: %v, %d", got, e)
	}
}

// P7.4: the sequence number may come up to 65535, and no further.
func TestStoreLastNumber(t *testing.T) {
	c, v := full(t, 65534)
	v = isStore(t, c, v, v.Entries[2], []byte{1}, -1)
	if v.Seq != 65535 || v.Copy != 1 {
		t.Errorf("P7.4: %v", v)
	}
	isStore(t, c, v, v.Entries[2], []byte{2}, -1)
	isDrop(t, c, v, 2, 1, -1)
	isDrop(t, c, v, 2, 9, -1)
	isView(t, "P7.4", c, v, api.OK)
	v, _ = shell.Read(cardOf(shellOf(1, 1), copyOf(65535)))
	isStore(t, cardOf(shellOf(1, 1), copyOf(65535)), v, api.Entry{Kind: 1, Owner: 1, Id: 1}, nil, -1)
}

// P7.4: bodies of every length, padded with zeros over what the slot had.
func TestStoreBodies(t *testing.T) {
	for n := range 67 {
		c := cardOf(shellOf(9, 1), copyOf(3), copyOf(4))
		v, _ := shell.Read(c)
		isStore(t, c, v, api.Entry{Kind: 2, Owner: 3, Id: 500}, filled(n, 1), -1)
		if n <= 64 {
			isBody(t, "P7.4", c, 0, append(filled(n, 1), make([]byte, 64-n)...), api.OK)
		}
	}
}

// P7.4: every number of a product that is in its range.
func TestStoreRanges(t *testing.T) {
	for kind := range 7 {
		for owner := range 7 {
			for _, id := range []int{0, 1, 255, 256, 65534, 65535, 65536} {
				for _, slot := range []int{-1, 0, 3, 5, 6, math.MaxInt} {
					c := cardOf(shellOf(9, 1), copyOf(3, api.Entry{Kind: 1, Owner: 1, Id: 1, Slot: 0}))
					v, _ := shell.Read(c)
					e := api.Entry{Kind: api.Kind(kind), Owner: owner, Id: id, Slot: slot}
					w := isStore(t, c, v, e, []byte{5}, -1)
					if w.Seq != 0 {
						isView(t, "P7.4", c, w, api.OK)
					}
				}
			}
		}
	}
}

// P7.4: a product that is there is replaced in its place, on a full card too, with another kind, and always in the free slot.
func TestStoreReplaces(t *testing.T) {
	for at := range 5 {
		c, v := full(t, 20)
		e := api.Entry{Kind: 5 - v.Entries[at].Kind, Owner: v.Entries[at].Owner, Id: v.Entries[at].Id, Slot: 3}
		was, _ := shell.Body(c, v.Entries[at].Slot)
		w := isStore(t, c, v, e, filled(64, 9), -1)
		e.Slot = 1
		if len(w.Entries) != 5 || w.Entries[at] != e {
			t.Errorf("P7.4: %v", w)
		}
		isBody(t, "P7.4", c, 1, filled(64, 9), api.OK)
		isBody(t, "P7.4", c, v.Entries[at].Slot, was, api.OK)
	}
}

// P7.4: three writes in their order, up to the first error.
func TestStorePower(t *testing.T) {
	for power := -1; power < 5; power++ {
		c, v := full(t, 20)
		isStore(t, c, v, v.Entries[1], filled(40, 3), power)
		c, v = full(t, 20)
		w := isDrop(t, c, v, 4, 65535, -1)
		isStore(t, c, w, api.Entry{Kind: 1, Owner: 2, Id: 2}, filled(64, 3), power)
		if n := hasPower(c, 9); power >= 0 && n != max(power-3, 0) {
			t.Errorf("P7.4: of power for %d Store left %d", power, n)
		}
	}
}

// P7.5: the errors in their order, each without a write.
func TestDropErrors(t *testing.T) {
	c, v := full(t, 10)
	last, top := full(t, 65535)
	for _, x := range []struct {
		c         *card.Card
		v         shell.View
		owner, id int
		want      api.Errno
	}{
		{nil, v, 1, 1, api.ErrArg}, {nil, top, 1, 1, api.ErrArg}, {nil, v, 9, 9, api.ErrArg},
		{c, v, 2, 2, api.ErrNone}, {c, v, 0, 0, api.ErrNone}, {c, v, 0, 1, api.ErrNone}, {c, v, 1, 0, api.ErrNone}, {c, v, math.MinInt, math.MaxInt, api.ErrNone},
		{last, top, 2, 2, api.ErrNone}, {last, top, 1, 1, api.ErrOver}, {last, top, 3, 256, api.ErrOver},
	} {
		was := []byte(nil)
		if x.c != nil {
			was = x.c.Image()
			x.c.Power(0)
		}
		if got, e := shell.Drop(x.c, x.v, x.owner, x.id); !same(got, shell.View{}) || e != x.want {
			t.Errorf("P7.5: Drop(%d, %d): %v, %d; should be %d", x.owner, x.id, got, e, x.want)
		}
		if x.c == nil {
			continue
		}
		x.c.Power(2)
		shell.Drop(x.c, x.v, x.owner, x.id)
		if n := hasPower(x.c, 9); n != 2 || !bytes.Equal(x.c.Image(), was) {
			t.Errorf("P7.5: Drop(%d, %d) left power for %d, or changed the card", x.owner, x.id, n)
		}
	}
}

// P7.5: one write, and the others' order stays.
func TestDropPower(t *testing.T) {
	for power := -1; power < 3; power++ {
		for at := range 5 {
			c, v := full(t, 20)
			isDrop(t, c, v, v.Entries[at].Owner, v.Entries[at].Id, power)
			if n := hasPower(c, 9); power >= 0 && n != max(power-1, 0) {
				t.Errorf("P7.5: of power for %d Drop left %d", power, n)
			}
		}
	}
	c, v := full(t, 20)
	for len(v.Entries) > 0 {
		v = isDrop(t, c, v, v.Entries[0].Owner, v.Entries[0].Id, -1)
		isView(t, "P7.5", c, v, api.OK)
	}
	isDrop(t, c, v, 1, 1, -1)
}

// shown is what a card shows: its view, and the bodies of its entries.
func shown(c *card.Card) (shell.View, string) {
	v, _ := shell.Read(c)
	all := ""
	for _, e := range v.Entries {
		b, _ := shell.Body(c, e.Slot)
		all += string(b)
	}
	return v, all
}

// P7.6: rows of changes with the card removed at any place: it shows what it showed, or what it was to show. Also P7.4 and P7.5, against the other way.
func TestRemoved(t *testing.T) {
	d := dice(76)
	count := map[api.Errno]int{}
	for range 400 {
		c := cardOf()
		isFormat(t, c, 1+d.below(65535), 1+d.below(4), api.OK)
		v, _ := shell.Read(c)
		for range 60 {
			v = removed(t, &d, c, v, count)
		}
	}
	for _, e := range []api.Errno{api.OK, api.ErrTorn, api.ErrFull, api.ErrNone, 130} {
		if count[e] < 100 {
			t.Errorf("P7.6: outcome %d came %d times", e, count[e])
		}
	}
}

func removed(t *testing.T, d *dice, c *card.Card, v shell.View, count map[api.Errno]int) shell.View {
	t.Helper()
	e := api.Entry{Kind: api.Kind(1 + d.below(4)), Owner: 1 + d.below(3), Id: 1 + d.below(3), Slot: d.below(6)}
	body := d.bytes(d.below(65))
	drop, power := d.below(4) == 0, d.below(5)-1
	do := func(c *card.Card, power int) (shell.View, api.Errno) {
		if drop {
			_, _, we := dropped(v, e.Owner, e.Id)
			return isDrop(t, c, v, e.Owner, e.Id, power), we
		}
		_, _, we := stored(v, e, body)
		return isStore(t, c, v, e, body, power), we
	}
	before, bodies := shown(c)
	if !same(before, v) {
		t.Fatalf("P7.6: Read: %v; should be %v", before, v)
	}
	calm := card.New()
	calm.Load(c.Image())
	_, we := do(calm, -1)
	then, new := shown(calm)
	w, _ := do(c, power)
	got, now := shown(c)
	torn := we == api.OK && same(w, shell.View{})
	count[we]++
	if torn {
		count[api.ErrTorn]++
		if !same(got, before) || now != bodies {
			t.Fatalf("P7.6: a removed card shows %v, and showed %v", got, before)
		}
		return v
	}
	if !same(got, then) || now != new {
		t.Fatalf("P7.6: a card shows %v; should be %v", got, then)
	}
	if we == api.OK && !drop && v.At(e.Owner, e.Id) >= 0 {
		count[130]++
	}
	return got
}

// P7.6: also on a card whose other copy is anything: of the same number, torn, or wrong.
func TestRemovedAnyCopies(t *testing.T) {
	d := dice(77)
	n := 0
	for n < 4000 {
		c := cardOf(shellOf(5, 1), d.copy(), d.copy())
		v, e := shell.Read(c)
		if e != api.OK {
			continue
		}
		n++
		before, bodies := shown(c)
		entry := api.Entry{Kind: 1, Owner: 1 + d.below(4), Id: 1 + d.below(60)}
		if len(v.Entries) == 5 {
			entry = v.Entries[d.below(5)]
		}
		power := d.below(4)
		image := c.Image()
		w := isStore(t, c, v, entry, []byte{1, 2}, power)
		if power == 3 {
			isView(t, "P7.4", c, w, api.OK)
		} else if got, now := shown(c); !same(got, before) || now != bodies {
			t.Fatalf("P7.6: a removed card shows %v, and showed %v", got, before)
		}
		c.Load(image)
		if len(v.Entries) > 0 {
			w = isDrop(t, c, v, v.Entries[0].Owner, v.Entries[0].Id, -1)
			isView(t, "P7.5", c, w, api.OK)
		}
	}
}

// scribble changes all that the slices' holder can reach, the spare capacity too.
func scribble(v shell.View, bs ...[]byte) {
	entries := v.Entries[:cap(v.Entries)]
	for i := range entries {
		entries[i] = api.Entry{Kind: 9, Owner: 9, Id: 9, Slot: 9}
	}
	for _, b := range bs {
		for i := range b[:cap(b)] {
			b[:cap(b)][i] ^= 0x5A
		}
	}
}

// P7.7: results are new memory, their spare capacity too.
func TestNewMemory(t *testing.T) {
	c, v := full(t, 30)
	want, _ := view(c.Image())
	image := c.Image()
	first, _ := shell.Read(c)
	b, _ := shell.Body(c, 2)
	scribble(first, b)
	isView(t, "P7.7", c, want, api.OK)
	isImage(t, "P7.7", c, image)
	if !same(v, want) {
		t.Errorf("P7.7: views share memory: %v", v)
	}
	for _, keep := range []int{5, 4, 2, 1} {
		given := want
		given.Entries = append(make([]api.Entry, 0, 9), want.Entries[:keep]...)
		room := append([]api.Entry(nil), given.Entries[:9]...)
		d := cardOf(shellOf(77, 3), copyOf(29), copyOf(30, given.Entries...))
		e := api.Entry{Kind: 1, Owner: 1, Id: 1}
		w, _ := shell.Store(d, given, e, nil)
		scribble(w)
		d.Load(cardOf(shellOf(77, 3), copyOf(29), copyOf(30, given.Entries...)).Image())
		e.Id = 3
		w, _ = shell.Store(d, given, e, nil)
		scribble(w)
		d.Load(cardOf(shellOf(77, 3), copyOf(29), copyOf(30, given.Entries...)).Image())
		w, _ = shell.Drop(d, given, 1, 1)
		scribble(w)
		if !reflect.DeepEqual(given.Entries[:9], room) {
			t.Errorf("P7.7: a result shares memory with the view: %v", given.Entries[:9])
		}
	}
}

// P7.7: arguments are neither changed, with what lies behind them, nor kept.
func TestArguments(t *testing.T) {
	for _, power := range []int{-1, 0, 1, 2} {
		c, _ := full(t, 30)
		v, _ := view(c.Image())
		v.Entries = append(make([]api.Entry, 0, 9), v.Entries...)
		body := filled(100, 4)
		room := append([]api.Entry(nil), v.Entries[:9]...)
		c.Power(power)
		w, _ := shell.Store(c, v, v.Entries[0], body[:50])
		u, _ := shell.Drop(c, v, 2, 1)
		shell.Store(c, v, v.Entries[0], body[:70])
		shell.Store(c, v, api.Entry{Kind: 1, Owner: 1, Id: 9}, body[:50])
		v.At(1, 1)
		v.Free()
		if !reflect.DeepEqual(v.Entries[:9], room) || !bytes.Equal(body, filled(100, 4)) {
			t.Errorf("P7.7: an argument was changed: %v, %X", v.Entries[:9], body)
		}
		image, stay, gone := c.Image(), len(w.Entries), len(u.Entries)
		a, b := append([]api.Entry(nil), w.Entries...), append([]api.Entry(nil), u.Entries...)
		scribble(v, body)
		if !reflect.DeepEqual(a, append([]api.Entry(nil), w.Entries[:stay]...)) || !reflect.DeepEqual(b, append([]api.Entry(nil), u.Entries[:gone]...)) {
			t.Errorf("P7.7: an argument was kept: %v, %v", w, u)
		}
		isImage(t, "P7.7", c, image)
	}
}

// P1: whatever the arguments, views that no card has among them, every call ends and does not panic.
func TestNoPanic(t *testing.T) {
	edges := []int{math.MinInt, math.MinInt + 1, -65536, -1, 0, 1, 2, 3, 5, 6, 255, 256, 65534, 65535, 65536, 1 << 32, math.MaxInt - 1, math.MaxInt}
	for _, a := range edges {
		for _, b := range edges {
			for _, n := range []int{0, 1, 5, 6, 7, 300} {
				entries := make([]api.Entry, n)
				for i := range entries {
					entries[i] = api.Entry{Kind: api.Kind(a), Owner: a, Id: b, Slot: b}
				}
				v := shell.View{Card: a, Issuer: b, Seq: a, Copy: b, Entries: entries}
				for _, c := range []*card.Card{nil, card.New()} {
					shell.Format(c, a, b)
					shell.Store(c, v, api.Entry{Kind: 1, Owner: 1, Id: 1, Slot: a}, nil)
					shell.Store(c, v, api.Entry{Kind: api.Kind(a), Owner: a, Id: b, Slot: b}, make([]byte, 64))
					shell.Drop(c, v, a, b)
					shell.Read(c)
					shell.Body(c, a)
					v.At(a, b)
					v.Free()
				}
			}
		}
	}
}
