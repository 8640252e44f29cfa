package card_test

import (
	"bytes"
	"math"
	"testing"

	"farebox/api"
	"farebox/card"
)

const (
	sectors = 16
	width   = 32
	whole   = 512
)

// model is what a card should be, by another way: it keeps all that was written, not what came of it.
type model struct {
	loads  []string
	writes []note
	power  int // below 0: unlimited
}

// note is a write that was accepted, after so many loads.
type note struct {
	loads, sector int
	text          string
}

func (m *model) read(sector int) (string, api.Errno) {
	if sector < 0 || sector > 15 {
		return "", api.ErrArg
	}
	for i := len(m.writes) - 1; i >= 0; i-- {
		if w := m.writes[i]; w.sector == sector && w.loads == len(m.loads) {
			return w.text, api.OK
		}
	}
	if n := len(m.loads); n > 0 {
		return m.loads[n-1][32*sector : 32*sector+32], api.OK
	}
	return string(make([]byte, 32)), api.OK
}

func (m *model) write(sector int, b []byte) api.Errno {
	switch {
	case sector < 0 || sector > 15:
		return api.ErrArg
	case len(b) < 32:
		return api.ErrShort
	case len(b) > 32:
		return api.ErrLong
	case m.power == 0:
		return api.ErrTorn
	}
	m.writes = append(m.writes, note{len(m.loads), sector, string(b)})
	m.power = max(m.power-1, -1)
	return api.OK
}

func (m *model) load(image []byte) api.Errno {
	if len(image) != 512 {
		if len(image) < 512 {
			return api.ErrShort
		}
		return api.ErrLong
	}
	m.loads = append(m.loads, string(image))
	return api.OK
}

func (m *model) image() string {
	s := ""
	for i := range 16 {
		part, _ := m.read(i)
		s += part
	}
	return s
}

// dice are numbers made by a fixed rule.
type dice uint64

func (d *dice) below(n int) int {
	*d = *d*6364136223846793005 + 1442695040888963407
	return int(uint64(*d)>>32) % n
}

func (d *dice) bytes(n int) []byte {
	b := make([]byte, n)
	for i := range b {
		b[i] = byte(d.below(256))
	}
	return b
}

// near is n, mostly, or a number beside it.
func (d *dice) near(n int) int {
	switch d.below(8) {
	case 0:
		return n - 1
	case 1:
		return n + 1
	case 2:
		return d.below(2 * n)
	default:
		return n
	}
}

// filled are bytes of which no two neighbours are the same, so that a shift of them shows.
func filled(n, first int) []byte {
	b := make([]byte, n)
	for i := range b {
		b[i] = byte(first + 7*i)
	}
	return b
}

func same(n int, x byte) []byte {
	return bytes.Repeat([]byte{x}, n)
}

func isRead(t *testing.T, promise string, c *card.Card, sector int, want []byte) {
	t.Helper()
	if got, e := c.Read(sector); !bytes.Equal(got, want) || e != api.OK {
		t.Errorf("%s: Read(%d): %X, %d; should be %X", promise, sector, got, e, want)
	}
}

func isNoSector(t *testing.T, c *card.Card, sector int) {
	t.Helper()
	if got, e := c.Read(sector); len(got) != 0 || e != api.ErrArg {
		t.Errorf("P6.1: Read(%d): %X, %d; should be none, ErrArg", sector, got, e)
	}
}

func isWrite(t *testing.T, promise string, c *card.Card, sector int, b []byte, want api.Errno) {
	t.Helper()
	if e := c.Write(sector, b); e != want {
		t.Errorf("%s: Write(%d, %d bytes): %d; should be %d", promise, sector, len(b), e, want)
	}
}

func isImage(t *testing.T, promise string, c *card.Card, want []byte) {
	t.Helper()
	if got := c.Image(); !bytes.Equal(got, want) {
		t.Errorf("%s: Image: %X; should be %X", promise, got, want)
	}
}

func isLoad(t *testing.T, c *card.Card, image []byte, want api.Errno) {
	t.Helper()
	if e := c.Load(image); e != want {
		t.Errorf("P6.4: Load(%d bytes): %d; should be %d", len(image), e, want)
	}
}

// hasPower counts the writes that a card can still perform, at most so many.
func hasPower(c *card.Card, most int) int {
	b, _ := c.Read(0)
	for n := range most {
		if c.Write(0, b) != api.OK {
			return n
		}
	}
	return most
}

// The chapter's examples.
func TestExamples(t *testing.T) {
	c := card.New()
	c.Power(1)
	isWrite(t, "P6.2", c, 3, same(width, 7), api.OK)
	isWrite(t, "P6.2", c, 4, same(width, 7), api.ErrTorn)
	isRead(t, "P6.2", c, 4, make([]byte, width))
	isNoSector(t, c, 16)
	isWrite(t, "P6.2", c, 16, nil, api.ErrArg)
	isWrite(t, "P6.2", c, 3, nil, api.ErrShort)
}

// P6.1: a new card is zeros, all over, with unlimited power.
func TestNew(t *testing.T) {
	c := card.New()
	for i := range sectors {
		isRead(t, "P6.1", c, i, make([]byte, width))
	}
	isImage(t, "P6.1", c, make([]byte, whole))
	if n := hasPower(c, 5000); n != 5000 {
		t.Errorf("P6.1: a new card has power for %d writes", n)
	}
}

// P6.1: cards have nothing to do with each other.
func TestNewIsAnother(t *testing.T) {
	c, other := card.New(), card.New()
	c.Write(5, same(width, 9))
	c.Power(0)
	isRead(t, "P6.1", other, 5, make([]byte, width))
	isWrite(t, "P6.1", other, 6, same(width, 8), api.OK)
	isRead(t, "P6.1", c, 6, make([]byte, width))
	isImage(t, "P6.1", card.New(), make([]byte, whole))
}

// P6.1: the sectors are 0 to 15, and no others.
func TestReadSectors(t *testing.T) {
	c := card.New()
	image := filled(whole, 3)
	c.Load(image)
	for i := range sectors {
		isRead(t, "P6.1", c, i, image[i*width:(i+1)*width])
	}
	for _, wrong := range []int{-1, -2, -16, 16, 17, 31, 32, 511, 512, 1 << 31, 1 << 32, 1<<32 + 3, 1 << 59, 1<<59 + 1, math.MaxInt, math.MinInt, math.MinInt + 1} {
		isNoSector(t, c, wrong)
	}
}

// P6.1: reading needs no power, takes none, and changes nothing.
func TestReadWithoutPower(t *testing.T) {
	c := card.New()
	image := filled(whole, 1)
	c.Load(image)
	c.Power(2)
	for range 10 {
		isRead(t, "P6.1", c, 7, image[7*width:8*width])
		isNoSector(t, c, 16)
		c.Image()
	}
	if n := hasPower(c, 10); n != 2 {
		t.Errorf("P6.1: reading left power for %d writes", n)
	}
	isRead(t, "P6.1", c, 15, image[15*width:])
	isImage(t, "P6.1", c, image)
}

// P6.2: a write changes its sector, and no other.
func TestWriteSectors(t *testing.T) {
	for at := range sectors {
		c := card.New()
		want := filled(whole, 5)
		c.Load(want)
		b := filled(width, 100+at)
		isWrite(t, "P6.2", c, at, b, api.OK)
		copy(want[at*width:], b)
		isRead(t, "P6.2", c, at, b)
		isImage(t, "P6.2", c, want)
		isWrite(t, "P6.2", c, at, same(width, 0), api.OK)
		copy(want[at*width:], make([]byte, width))
		isImage(t, "P6.2", c, want)
	}
}

// P6.2: every length but 32 is wrong, and changes nothing.
func TestWriteLengths(t *testing.T) {
	for n := range 70 {
		c := card.New()
		want := api.OK
		if n < width {
			want = api.ErrShort
		} else if n > width {
			want = api.ErrLong
		}
		isWrite(t, "P6.2", c, 2, same(n, 6), want)
		image := make([]byte, whole)
		if n == width {
			copy(image[2*width:], same(width, 6))
		}
		isImage(t, "P6.2", c, image)
	}
	c := card.New()
	isWrite(t, "P6.2", c, 0, same(whole, 1), api.ErrLong)
	isWrite(t, "P6.2", c, 0, same(1<<20, 1), api.ErrLong)
	isImage(t, "P6.2", c, make([]byte, whole))
}

// P6.2: of several errors the first one of its list counts; a call with an error takes no power and changes nothing.
func TestWriteErrors(t *testing.T) {
	for _, power := range []int{0, 1, 3} {
		c := card.New()
		image := filled(whole, 9)
		c.Load(image)
		c.Power(power)
		for _, sector := range []int{math.MinInt, -1, 16, 17, 1 << 32, 1 << 59, math.MaxInt} {
			for _, n := range []int{0, 31, 32, 33} {
				isWrite(t, "P6.2", c, sector, same(n, 1), api.ErrArg)
			}
		}
		for _, sector := range []int{0, 8, 15} {
			isWrite(t, "P6.2", c, sector, same(0, 1), api.ErrShort)
			isWrite(t, "P6.2", c, sector, same(31, 1), api.ErrShort)
			isWrite(t, "P6.2", c, sector, same(33, 1), api.ErrLong)
			isWrite(t, "P6.2", c, sector, same(64, 1), api.ErrLong)
		}
		isImage(t, "P6.2", c, image)
		if n := hasPower(c, 10); n != power {
			t.Errorf("P6.2: of power for %d writes errors left %d", power, n)
		}
		for range 3 {
			isWrite(t, "P6.2", c, 8, same(width, 1), api.ErrTorn)
		}
		isImage(t, "P6.2", c, image)
	}
}

// P6.2: a write of the bytes that are there takes power too.
func TestWriteSameBytes(t *testing.T) {
	c := card.New()
	c.Power(2)
	isWrite(t, "P6.2", c, 0, make([]byte, width), api.OK)
	isWrite(t, "P6.2", c, 0, make([]byte, width), api.OK)
	isWrite(t, "P6.2", c, 0, make([]byte, width), api.ErrTorn)
}

// P6.3: power for so many writes; below 0 it is unlimited; none is left over from what was set ahead.
func TestPower(t *testing.T) {
	for _, n := range []int{0, 1, 2, 15, 16, 17, 100} {
		c := card.New()
		c.Power(n)
		if got := hasPower(c, 200); got != n {
			t.Errorf("P6.3: Power(%d): %d writes", n, got)
		}
		c.Power(n)
		c.Power(3)
		if got := hasPower(c, 200); got != 3 {
			t.Errorf("P6.3: Power(3) behind Power(%d): %d writes", n, got)
		}
	}
	for _, n := range []int{-1, -2, -5, -1 << 32, math.MinInt + 1, math.MinInt, 1 << 31, 1 << 32, math.MaxInt - 1, math.MaxInt} {
		c := card.New()
		c.Power(0)
		c.Power(n)
		if got := hasPower(c, 5000); got != 5000 {
			t.Errorf("P6.3: Power(%d): %d writes", n, got)
		}
		c.Power(1)
		if got := hasPower(c, 5000); got != 1 {
			t.Errorf("P6.3: Power(1) behind Power(%d): %d writes", n, got)
		}
	}
}

// P6.3: setting the power changes no byte.
func TestPowerKeepsBytes(t *testing.T) {
	c := card.New()
	image := filled(whole, 2)
	c.Load(image)
	for _, n := range []int{0, 1, -1, 512, math.MinInt, math.MaxInt} {
		c.Power(n)
		isImage(t, "P6.3", c, image)
	}
}

// P6.4: the image is the sectors, one behind the other.
func TestImage(t *testing.T) {
	c := card.New()
	var want []byte
	for i := range sectors {
		b := filled(width, 11*i)
		c.Write(i, b)
		want = append(want, b...)
	}
	isImage(t, "P6.4", c, want)
	c.Power(0)
	isImage(t, "P6.4", c, want)
}

// P6.4: a load replaces all bytes; of any length but 512 it is an error, and changes nothing.
func TestLoad(t *testing.T) {
	c := card.New()
	image := filled(whole, 77)
	isLoad(t, c, image, api.OK)
	isImage(t, "P6.4", c, image)
	for _, n := range []int{0, 1, 31, 32, 480, 510, 511} {
		isLoad(t, c, same(n, 4), api.ErrShort)
	}
	for _, n := range []int{513, 514, 544, 1024, 1 << 20} {
		isLoad(t, c, same(n, 4), api.ErrLong)
	}
	isLoad(t, c, nil, api.ErrShort)
	isImage(t, "P6.4", c, image)
	isLoad(t, c, same(whole, 0), api.OK)
	isImage(t, "P6.4", c, make([]byte, whole))
}

// P6.4: a load needs no power, and takes and gives none, right or wrong.
func TestLoadPower(t *testing.T) {
	for _, power := range []int{0, 1, 5} {
		c := card.New()
		c.Power(power)
		image := filled(whole, power)
		isLoad(t, c, image, api.OK)
		isLoad(t, c, same(511, 1), api.ErrShort)
		isLoad(t, c, same(513, 1), api.ErrLong)
		isImage(t, "P6.4", c, image)
		if n := hasPower(c, 10); n != power {
			t.Errorf("P6.4: of power for %d writes loads left %d", power, n)
		}
		isLoad(t, c, image, api.OK)
		isWrite(t, "P6.4", c, 0, same(width, 1), api.ErrTorn)
	}
	c := card.New()
	isLoad(t, c, filled(whole, 1), api.OK)
	if n := hasPower(c, 1000); n != 1000 {
		t.Errorf("P6.4: a load left power for %d writes", n)
	}
}

// P6.4: a card with another's image shows the same, and goes its own way from there.
func TestLoadImage(t *testing.T) {
	c, d := card.New(), card.New()
	isLoad(t, c, filled(whole, 8), api.OK)
	isLoad(t, d, c.Image(), api.OK)
	isImage(t, "P6.4", d, filled(whole, 8))
	isWrite(t, "P6.4", d, 1, same(width, 0), api.OK)
	isImage(t, "P6.4", c, filled(whole, 8))
}

// scribble changes all that a slice's holder can reach, the spare capacity too.
func scribble(b []byte) {
	for i := range b[:cap(b)] {
		b[:cap(b)][i] ^= 0x5A
	}
}

// P6.4: results are new memory, their spare capacity too.
func TestNewMemory(t *testing.T) {
	c := card.New()
	image := filled(whole, 21)
	c.Load(image)
	for i := range sectors {
		first, _ := c.Read(i)
		second, _ := c.Read(i)
		scribble(first)
		if !bytes.Equal(second, image[i*width:(i+1)*width]) {
			t.Errorf("P6.4: reads of sector %d share memory", i)
		}
	}
	isImage(t, "P6.4", c, image)
	first, second := c.Image(), c.Image()
	scribble(first)
	if !bytes.Equal(second, image) {
		t.Error("P6.4: images share memory")
	}
	isImage(t, "P6.4", c, image)
	c.Write(0, same(width, 1))
	if !bytes.Equal(second, image) {
		t.Error("P6.4: an image changes with the card")
	}
	wrong, _ := c.Read(-1)
	scribble(wrong)
	isRead(t, "P6.4", c, 0, same(width, 1))
}

// P6.4: arguments are neither changed, with what lies behind them, nor kept.
func TestArguments(t *testing.T) {
	c := card.New()
	room := filled(whole+100, 50)
	was := bytes.Clone(room)
	isLoad(t, c, room[:whole], api.OK)
	isWrite(t, "P6.4", c, 3, room[:width], api.OK)
	isLoad(t, c, room[:whole+1], api.ErrLong)
	isLoad(t, c, room[:40], api.ErrShort)
	isWrite(t, "P6.4", c, 3, room[:20], api.ErrShort)
	c.Power(0)
	isWrite(t, "P6.4", c, 4, room[:width], api.ErrTorn)
	if !bytes.Equal(room, was) {
		t.Errorf("P6.4: an argument was changed: %X", room)
	}
	want := bytes.Clone(was[:whole])
	copy(want[3*width:], was[:width])
	scribble(room)
	isImage(t, "P6.4", c, want)
	c.Power(-1)
	isWrite(t, "P6.4", c, 9, same(width, 2), api.OK)
	for i := range room {
		room[i] ^= 0x5A
	}
	if !bytes.Equal(room, was) {
		t.Errorf("P6.4: an argument was kept and changed: %X", room)
	}
}

// P6.1 to P6.4: long rows of calls, against the model; every outcome must have come.
func TestMany(t *testing.T) {
	d := dice(6)
	count := map[api.Errno]int{}
	for range 300 {
		c, m := card.New(), model{power: -1}
		for range 200 {
			step(t, &d, c, &m, count)
		}
		isImage(t, "P6.4", c, []byte(m.image()))
	}
	for _, e := range []api.Errno{api.OK, api.ErrArg, api.ErrShort, api.ErrLong, api.ErrTorn} {
		if count[e] < 100 {
			t.Errorf("P6.2: outcome %d came %d times", e, count[e])
		}
	}
}

func step(t *testing.T, d *dice, c *card.Card, m *model, count map[api.Errno]int) {
	t.Helper()
	sector := d.below(20) - 2
	switch d.below(8) {
	case 0:
		n := d.below(12) - 2
		c.Power(n)
		m.power = max(n, -1)
	case 1:
		b := d.bytes(d.near(whole))
		isLoad(t, c, b, m.load(b))
	case 2, 3:
		want, we := m.read(sector)
		if got, e := c.Read(sector); string(got) != want || e != we {
			t.Fatalf("P6.1: Read(%d): %X, %d; should be %X, %d", sector, got, e, want, we)
		}
	default:
		b := d.bytes(d.near(width))
		e := m.write(sector, b)
		isWrite(t, "P6.2", c, sector, b, e)
		count[e]++
	}
}

// P1: whatever the arguments, every call ends and does not panic.
func TestNoPanic(t *testing.T) {
	edges := []int{math.MinInt, math.MinInt + 1, -1 << 32, -17, -16, -1, 0, 1, 14, 15, 16, 17, 31, 32, 511, 512, 1 << 31, 1 << 32, 1 << 58, 1 << 59, 1 << 60, math.MaxInt - 1, math.MaxInt}
	for _, power := range edges {
		for _, sector := range edges {
			for _, n := range []int{0, 1, 31, 32, 33, 511, 512, 513} {
				c, m := card.New(), model{power: max(power, -1)}
				c.Power(power)
				b := same(n, 3)
				isWrite(t, "P1", c, sector, b, m.write(sector, b))
				isLoad(t, c, b, m.load(b))
				want, we := m.read(sector)
				if got, e := c.Read(sector); string(got) != want || e != we {
					t.Errorf("P1: Read(%d): %X, %d", sector, got, e)
				}
			}
		}
	}
}
