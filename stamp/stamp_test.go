package stamp_test

import (
	"bytes"
	"math"
	"slices"
	"strconv"
	"strings"
	"testing"

	"farebox/api"
	"farebox/stamp"
)

// lastTime is the greatest time of a valid stamp, 65535 1439.
const lastTime = 94371839

func at(day, minute int) api.Stamp {
	return api.Stamp{Day: day, Minute: minute}
}

// laid is a number's digits as bytes, by another way than the package's: each decimal digit is read as a hexadecimal one.
func laid(n, count int) []byte {
	s := strconv.Itoa(n)
	s = strings.Repeat("0", count+count%2-len(s)) + s
	var b []byte
	for ; s != ""; s = s[2:] {
		x, _ := strconv.ParseUint(s[:2], 16, 8)
		b = append(b, byte(x))
	}
	return b
}

// packed is a stamp's bytes, by another way than the package's.
func packed(ss ...api.Stamp) []byte {
	var b []byte
	for _, s := range ss {
		n := s.Day*65536 + s.Minute*32
		b = append(b, byte(n/16777216), byte(n/65536), byte(n/256), byte(n))
	}
	return b
}

// moment is the valid stamp of a time.
func moment(time int) api.Stamp {
	return at(time/1440, time%1440)
}

// numbers are made by a fixed rule, each of them from 0 to below the bound.
func numbers(count, below int) []int {
	var ns []int
	seed := uint64(11)
	for range count {
		seed = seed*6364136223846793005 + 1442695040888963407
		ns = append(ns, int(seed>>2)%below)
	}
	return ns
}

func moments(count int) []api.Stamp {
	var ss []api.Stamp
	for _, n := range numbers(count, lastTime+1) {
		ss = append(ss, moment(n))
	}
	return ss
}

// wrongStamps are those just beside the valid ones, and far from them.
func wrongStamps() []api.Stamp {
	return []api.Stamp{
		at(-1, 0), at(0, -1), at(65536, 0), at(0, 1440), at(65535, 1440), at(65536, 1439), at(-1, -1),
		at(0, 1441), at(0, 2047), at(0, 2048), at(1, -1440), at(-1, 1440), at(65536, -1440),
		at(math.MinInt, 0), at(0, math.MinInt), at(math.MaxInt, 0), at(0, math.MaxInt), at(math.MaxInt, math.MinInt), at(1<<32, 0), at(0, 1<<32),
	}
}

func edgeStamps() []api.Stamp {
	return []api.Stamp{at(0, 0), at(0, 1), at(0, 1438), at(0, 1439), at(1, 0), at(255, 31), at(256, 32), at(32768, 1024), at(65534, 1439), at(65535, 0), at(65535, 1438), at(65535, 1439)}
}

// scribble changes all that a result's holder can reach, the spare capacity too.
func scribble[T any](s []T, x T) {
	for i := range s[:cap(s)] {
		s[:cap(s)][i] = x
	}
}

func isDigits(t *testing.T, n, count int, want []byte, we api.Errno) {
	t.Helper()
	if b, e := stamp.Digits(n, count); !bytes.Equal(b, want) || e != we {
		t.Errorf("P2.1: Digits(%d, %d): %x, %d; should be %x, %d", n, count, b, e, want, we)
	}
}

func isNumber(t *testing.T, b []byte, want int, we api.Errno) {
	t.Helper()
	if n, e := stamp.Number(b); n != want || e != we {
		t.Errorf("P2.1: Number(%x): %d, %d; should be %d, %d", b, n, e, want, we)
	}
}

// P2.1: the chapter's examples, and an odd number of digits.
func TestDigitsExamples(t *testing.T) {
	isDigits(t, 123, 4, []byte{0x01, 0x23}, api.OK)
	isDigits(t, 123, 2, nil, api.ErrArg)
	isDigits(t, 123, 3, []byte{0x01, 0x23}, api.OK)
	isDigits(t, 1234, 4, []byte{0x12, 0x34}, api.OK)
	isDigits(t, 1234, 7, []byte{0x00, 0x00, 0x12, 0x34}, api.OK)
}

// P2.1: each count takes the greatest number of its digits, and refuses the next.
func TestDigitsEdgesOfEachCount(t *testing.T) {
	top := 1
	for count := 1; count <= 18; count++ {
		top *= 10
		for _, n := range []int{0, 1, 9, top / 10, top/10 - 1, top / 2, top - 2, top - 1} {
			isDigits(t, n, count, laid(n, count), api.OK)
		}
		for _, n := range []int{top, top + 1, 2 * top, math.MaxInt, -1, -2, -top, 1 - top, math.MinInt, math.MinInt + 1} {
			isDigits(t, n, count, nil, api.ErrArg)
		}
	}
}

// P2.1: counts of which there are none, whatever the number.
func TestDigitsWrongCounts(t *testing.T) {
	for _, count := range []int{math.MinInt, -18, -2, -1, 0, 19, 20, 21, 1 << 32, math.MaxInt} {
		for _, n := range []int{0, 1, 123, -1, math.MaxInt, math.MinInt} {
			isDigits(t, n, count, nil, api.ErrArg)
		}
	}
}

// P2.1: each value of a byte is a pair of digits, or none, wherever it stands.
func TestNumberOfEachByte(t *testing.T) {
	for x := range 256 {
		n, err := strconv.Atoi(strconv.FormatInt(int64(x+256), 16)[1:])
		want, e := n, api.OK
		if err != nil {
			want, e = 0, api.ErrForm
		}
		isNumber(t, []byte{byte(x)}, want, e)
		for place := range 9 {
			b := bytes.Repeat([]byte{0}, 9)
			b[place] = byte(x)
			scaled := want
			for range 8 - place {
				scaled *= 100
			}
			isNumber(t, b, scaled, e)
		}
	}
}

// P2.1: the chapter's example; lengths at the edges; which error comes first.
func TestNumberEdges(t *testing.T) {
	isNumber(t, []byte{0x01, 0x2A}, 0, api.ErrForm)
	isNumber(t, []byte{0x01, 0xA2}, 0, api.ErrForm)
	isNumber(t, []byte{0x01, 0x23}, 123, api.OK)
	isNumber(t, nil, 0, api.ErrShort)
	isNumber(t, []byte{}, 0, api.ErrShort)
	isNumber(t, bytes.Repeat([]byte{0x99}, 9), 999999999999999999, api.OK)
	isNumber(t, make([]byte, 9), 0, api.OK)
	for _, length := range []int{10, 11, 18, 1000} {
		for _, x := range []byte{0x00, 0x99, 0xA0, 0x0A, 0xFF} {
			isNumber(t, bytes.Repeat([]byte{x}, length), 0, api.ErrLong)
		}
	}
}

// P2.2: each of the edges of both fields.
func TestRight(t *testing.T) {
	for _, s := range edgeStamps() {
		if !stamp.Right(s) {
			t.Errorf("P2.2: %v is valid", s)
		}
	}
	for _, s := range wrongStamps() {
		if stamp.Right(s) {
			t.Errorf("P2.2: %v isn't valid", s)
		}
	}
}

func isPack(t *testing.T, want []byte, we api.Errno, ss ...api.Stamp) {
	t.Helper()
	if b, e := stamp.Pack(ss...); !bytes.Equal(b, want) || e != we {
		t.Errorf("P2.2: Pack(%v): %x, %d; should be %x, %d", ss, b, e, want, we)
	}
}

func isUnpack(t *testing.T, b []byte, we api.Errno, want ...api.Stamp) {
	t.Helper()
	if ss, e := stamp.Unpack(b); !slices.Equal(ss, want) || e != we {
		t.Errorf("P2.2: Unpack(%x): %v, %d; should be %v, %d", b, ss, e, want, we)
	}
}

// P2.2: the chapter's example, the edges, several in their order, none.
func TestPack(t *testing.T) {
	isPack(t, []byte{0, 1, 0, 0x20}, api.OK, at(1, 1))
	isPack(t, []byte{0xFF, 0xFF, 0xB3, 0xE0}, api.OK, at(65535, 1439))
	isPack(t, []byte{0, 1, 0, 0x20, 0, 0, 0, 0, 1, 2, 0, 0x60}, api.OK, at(1, 1), at(0, 0), at(258, 3))
	isPack(t, nil, api.OK)
	isPack(t, nil, api.OK, []api.Stamp{}...)
	for _, s := range edgeStamps() {
		isPack(t, packed(s), api.OK, s)
	}
	ss := moments(300)
	isPack(t, packed(ss...), api.OK, ss...)
}

// P2.2: one that isn't valid, wherever it stands, and there are no bytes.
func TestPackWrong(t *testing.T) {
	good := []api.Stamp{at(1, 1), at(2, 2), at(65535, 1439)}
	for _, wrong := range wrongStamps() {
		isPack(t, nil, api.ErrArg, wrong)
		for i := range len(good) + 1 {
			isPack(t, nil, api.ErrArg, slices.Insert(slices.Clone(good), i, wrong)...)
		}
	}
}

// P2.2: each minute of the eleven bits, with each padding.
func TestUnpackEachMinute(t *testing.T) {
	for low := range 65536 {
		b := []byte{0x12, 0x34, byte(low / 256), byte(low)}
		if low%32 == 0 && low/32 < 1440 {
			isUnpack(t, b, api.OK, at(0x1234, low/32))
		} else {
			isUnpack(t, b, api.ErrForm)
		}
	}
}

// P2.2: each day.
func TestUnpackEachDay(t *testing.T) {
	for day := range 65536 {
		isUnpack(t, []byte{byte(day / 256), byte(day), 0, 0x20}, api.OK, at(day, 1))
	}
}

// P2.2: lengths that aren't of whole stamps are ErrShort, ahead of ErrForm; none are no error.
func TestUnpackLengths(t *testing.T) {
	isUnpack(t, nil, api.OK)
	isUnpack(t, []byte{}, api.OK)
	for length := range 41 {
		good, wrong := make([]byte, length), bytes.Repeat([]byte{0xFF}, length)
		if length%4 != 0 {
			isUnpack(t, good, api.ErrShort)
			isUnpack(t, wrong, api.ErrShort)
			continue
		}
		isUnpack(t, good, api.OK, make([]api.Stamp, length/4)...)
		if length > 0 {
			isUnpack(t, wrong, api.ErrForm)
		}
	}
}

// P2.2: four wrong bytes, wherever they stand, and there are no stamps.
func TestUnpackWrong(t *testing.T) {
	for _, wrong := range [][]byte{{0, 0, 0, 1}, {0, 0, 0, 0x10}, {0, 0, 0xB4, 0}, {0, 0, 0xFF, 0xE0}, {0xFF, 0xFF, 0xFF, 0xFF}} {
		for i := range 4 {
			b := slices.Insert(packed(at(1, 1), at(2, 2), at(3, 3)), 4*i, wrong...)
			isUnpack(t, b, api.ErrForm)
		}
	}
}

func isAdd(t *testing.T, s api.Stamp, minutes int, want api.Stamp, we api.Errno) {
	t.Helper()
	if got, e := stamp.Add(s, minutes); got != want || e != we {
		t.Errorf("P2.3: Add(%v, %d): %v, %d; should be %v, %d", s, minutes, got, e, want, we)
	}
}

// P2.3: the chapter's examples, over the edges of days, and both ends of time.
func TestAdd(t *testing.T) {
	isAdd(t, at(0, 1439), 1, at(1, 0), api.OK)
	isAdd(t, at(0, 0), -1, api.Stamp{}, api.ErrOver)
	isAdd(t, at(1, 0), -1, at(0, 1439), api.OK)
	isAdd(t, at(5, 7), 0, at(5, 7), api.OK)
	isAdd(t, at(5, 7), 1440, at(6, 7), api.OK)
	isAdd(t, at(5, 7), -1440, at(4, 7), api.OK)
	isAdd(t, at(65535, 1438), 1, at(65535, 1439), api.OK)
	isAdd(t, at(65535, 1438), 2, api.Stamp{}, api.ErrOver)
	isAdd(t, at(65535, 1439), 1, api.Stamp{}, api.ErrOver)
	isAdd(t, at(65535, 1439), -lastTime, at(0, 0), api.OK)
	isAdd(t, at(65535, 1439), -lastTime-1, api.Stamp{}, api.ErrOver)
	isAdd(t, at(0, 0), lastTime, at(65535, 1439), api.OK)
	isAdd(t, at(0, 0), lastTime+1, api.Stamp{}, api.ErrOver)
}

// P2.3: minutes whose sum with the time is no int.
func TestAddFar(t *testing.T) {
	for _, s := range edgeStamps() {
		for _, minutes := range []int{math.MaxInt, math.MaxInt - 1, math.MinInt, math.MinInt + 1, math.MaxInt - lastTime, math.MinInt + lastTime, 1 << 32, -1 << 32, 1 << 62, -1 << 62} {
			isAdd(t, s, minutes, api.Stamp{}, api.ErrOver)
		}
	}
}

// P2.3: a stamp that isn't valid is ErrArg, ahead of ErrOver, even where the sum would be a time.
func TestAddWrong(t *testing.T) {
	for _, s := range wrongStamps() {
		for _, minutes := range []int{0, 1, -1, 1440, -1440, math.MaxInt, math.MinInt} {
			isAdd(t, s, minutes, api.Stamp{}, api.ErrArg)
		}
	}
}

// P2.3: from each of many times to each other, and back.
func TestAddAndBetween(t *testing.T) {
	times := append(numbers(60, lastTime+1), 0, 1, 1439, 1440, lastTime-1, lastTime)
	for _, from := range times {
		for _, to := range times {
			isAdd(t, moment(from), to-from, moment(to), api.OK)
			if n := stamp.Between(moment(from), moment(to)); n != to-from {
				t.Errorf("P2.3: Between(%v, %v): %d; should be %d", moment(from), moment(to), n, to-from)
			}
		}
	}
}

func isBetween(t *testing.T, a, b api.Stamp, want int) {
	t.Helper()
	if n := stamp.Between(a, b); n != want {
		t.Errorf("P2.3: Between(%v, %v): %d; should be %d", a, b, n, want)
	}
}

// P2.3: the chapter's example; stamps that aren't valid count too, up to 2^40 on both sides.
func TestBetween(t *testing.T) {
	const far = 1 << 40
	isBetween(t, at(0, 5), at(1, 0), 1435)
	isBetween(t, at(1, 0), at(0, 5), -1435)
	isBetween(t, at(0, 0), at(-1, 0), -1440)
	isBetween(t, at(0, 0), at(-1, 1440), 0)
	isBetween(t, at(0, 1440), at(0, -1), -1441)
	isBetween(t, at(0, 0), at(far, far), far*1441)
	isBetween(t, at(-far, -far), at(far, far), 2*far*1441)
	isBetween(t, at(far, far), at(-far, -far), -2*far*1441)
	isBetween(t, at(far, -far), at(-far, far), -2*far*1439)
	for i := range 4 {
		for _, n := range []int{far, -far} {
			a, b := withOne(i, n)
			if stamp.Between(a, b) == 0 {
				t.Errorf("P2.3: Between(%v, %v) counts", a, b)
			}
		}
		for _, n := range []int{far + 1, -far - 1, math.MaxInt, math.MinInt, 1 << 62, -1 << 62} {
			a, b := withOne(i, n)
			isBetween(t, a, b, 0)
		}
	}
}

// withOne has n in one of its four numbers.
func withOne(i, n int) (a, b api.Stamp) {
	a, b = at(3, 4), at(6, 5)
	*[]*int{&a.Day, &a.Minute, &b.Day, &b.Minute}[i] = n
	return a, b
}

func isLatest(t *testing.T, want api.Stamp, there bool, ss ...api.Stamp) {
	t.Helper()
	if s, ok := stamp.Latest(ss...); s != want || ok != there {
		t.Errorf("P2.3: Latest(%v): %v, %v; should be %v, %v", ss, s, ok, want, there)
	}
}

// P2.3: the greatest time, wherever it stands; none of none.
func TestLatest(t *testing.T) {
	isLatest(t, api.Stamp{}, false)
	isLatest(t, api.Stamp{}, false, []api.Stamp{}...)
	isLatest(t, at(0, 0), true, at(0, 0))
	isLatest(t, at(2, 0), true, at(1, 0), at(2, 0), at(2, 0))
	isLatest(t, at(2, 0), true, at(1, 1439), at(2, 0))
	isLatest(t, at(2, 0), true, at(2, 0), at(1, 1439))
	isLatest(t, at(1, 8), true, at(1, 7), at(1, 8), at(1, 6))
	ss := moments(40)
	for i := range len(ss) + 1 {
		isLatest(t, at(65535, 1439), true, slices.Insert(slices.Clone(ss), i, at(65535, 1439))...)
	}
	for i := range ss {
		want := slices.MaxFunc(ss[:i+1], func(a, b api.Stamp) int { return (a.Day*1440 + a.Minute) - (b.Day*1440 + b.Minute) })
		isLatest(t, want, true, ss[:i+1]...)
	}
}

// P2.3: one that isn't valid, wherever it stands, and there is none.
func TestLatestWrong(t *testing.T) {
	good := []api.Stamp{at(1, 1), at(65535, 1439), at(2, 2)}
	for _, wrong := range wrongStamps() {
		isLatest(t, api.Stamp{}, false, wrong)
		for i := range len(good) + 1 {
			isLatest(t, api.Stamp{}, false, slices.Insert(slices.Clone(good), i, wrong)...)
		}
	}
}

// P2.4: Number reverses Digits, in each count that has room.
func TestNumberReversesDigits(t *testing.T) {
	top := 1
	for count := 1; count <= 18; count++ {
		top *= 10
		for _, n := range append(numbers(50, top), 0, 1, top-1, top/10) {
			b, e := stamp.Digits(n, count)
			if back, be := stamp.Number(b); e != api.OK || back != n || be != api.OK {
				t.Errorf("P2.4: %d in %d digits: %x, %d; back %d, %d", n, count, b, e, back, be)
			}
		}
	}
}

// P2.4: Unpack reverses Pack, of none, one and many.
func TestUnpackReversesPack(t *testing.T) {
	all := append(edgeStamps(), moments(300)...)
	for count := range len(all) + 1 {
		b, e := stamp.Pack(all[:count]...)
		if back, be := stamp.Unpack(b); e != api.OK || !slices.Equal(back, all[:count]) || be != api.OK {
			t.Errorf("P2.4: %d stamps: %d; back %v, %d", count, e, back, be)
		}
	}
}

// P2.4: results are new each time.
func TestResultsAreNew(t *testing.T) {
	for _, count := range []int{1, 2, 17, 18} {
		b, _ := stamp.Digits(7, count)
		c, _ := stamp.Digits(7, count)
		scribble(b, 0xEE)
		d, _ := stamp.Digits(7, count)
		if want := laid(7, count); !bytes.Equal(c, want) || !bytes.Equal(d, want) {
			t.Errorf("P2.4: digits share memory: %x, %x", c, d)
		}
	}
	ss := edgeStamps()
	b, _ := stamp.Pack(ss...)
	c, _ := stamp.Pack(ss...)
	scribble(b, 0xEE)
	if !bytes.Equal(c, packed(ss...)) {
		t.Errorf("P2.4: packed bytes share memory: %x", c)
	}
	first, _ := stamp.Unpack(c)
	second, _ := stamp.Unpack(c)
	scribble(first, at(9, 9))
	if !slices.Equal(second, ss) || !bytes.Equal(c, packed(ss...)) {
		t.Errorf("P2.4: stamps share memory: %v", second)
	}
}

// P2.4: arguments, and what lies behind them in their memory, are neither changed nor kept.
func TestArgumentsStay(t *testing.T) {
	room := edgeStamps()
	was := slices.Clone(room)
	b, _ := stamp.Pack(room[:5]...)
	stamp.Latest(room[:5]...)
	if !slices.Equal(room, was) {
		t.Errorf("P2.4: stamps were changed: %v", room)
	}
	scribble(room, at(9, 9))
	if !bytes.Equal(b, packed(was[:5]...)) {
		t.Errorf("P2.4: bytes changed with the stamps: %x", b)
	}
	bs := packed(was...)
	before := slices.Clone(bs)
	ss, _ := stamp.Unpack(bs[:8])
	stamp.Number(bs[:3])
	if !bytes.Equal(bs, before) {
		t.Errorf("P2.4: bytes were changed: %x", bs)
	}
	scribble(bs, 0)
	if !slices.Equal(ss, was[:2]) {
		t.Errorf("P2.4: stamps changed with the bytes: %v", ss)
	}
}
