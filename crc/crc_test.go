package crc_test

import (
	"bytes"
	"slices"
	"testing"

	"farebox/api"
	"farebox/crc"
)

// divided is the checksum by another way than the package's: the bits, with 16 zeros behind them and the first 16 places inverted, are divided by the polynomial with its leading bit, 11021, and the rest of the division is the sum.
func divided(b []byte) int {
	places := make([]int, 0, len(b)*8+16)
	for _, x := range b {
		for i := 7; i >= 0; i-- {
			places = append(places, int(x)>>i&1)
		}
	}
	places = append(places, make([]int, 16)...)
	for i := range 16 {
		places[i] ^= 1
	}
	for i := 0; i+16 < len(places); i++ {
		if places[i] == 0 {
			continue
		}
		for _, power := range []int{16, 12, 5, 0} {
			places[i+16-power] ^= 1
		}
	}
	rest := 0
	for _, p := range places[len(places)-16:] {
		rest = rest*2 + p
	}
	return rest
}

// withSum is a body and its checksum behind it.
func withSum(body []byte) []byte {
	s := divided(body)
	return append(slices.Clone(body), byte(s/256), byte(s%256))
}

// noise is bytes made by a fixed rule.
func noise(count int, seed uint64) []byte {
	b := make([]byte, 0, count)
	for range count {
		seed = seed*6364136223846793005 + 1442695040888963407
		b = append(b, byte(seed>>40))
	}
	return b
}

// bodies are those of the chapter, short ones, and those of sectors' and records' sizes and just beside them.
func bodies() [][]byte {
	all := [][]byte{nil, {}, {0}, {0xFF}, {0x80}, {1}, {0, 0}, {0xFF, 0xFF}, {0x12, 0x34}, []byte("123456789"), bytes.Repeat([]byte{0}, 33), bytes.Repeat([]byte{0xFF}, 33)}
	for _, count := range []int{3, 4, 15, 16, 29, 30, 31, 32, 33, 34, 255, 256, 257, 1000} {
		all = append(all, noise(count, uint64(count)))
	}
	return all
}

// scribble changes all that a slice's holder can reach, the spare capacity too.
func scribble(b []byte) {
	for i := range b[:cap(b)] {
		b[:cap(b)][i] ^= 0xA5
	}
}

// inverted is a copy with the bits of a mask inverted, whose highest bit stands at the given place from the first bit on.
func inverted(b []byte, place, mask int) []byte {
	c := slices.Clone(b)
	for i := range 16 {
		if mask>>(15-i)&1 == 1 {
			c[(place+i)/8] ^= 0x80 >> ((place + i) % 8)
		}
	}
	return c
}

func isOpen(t *testing.T, promise string, b, want []byte, we api.Errno) {
	t.Helper()
	if got, e := crc.Open(b); !bytes.Equal(got, want) || e != we {
		t.Errorf("%s: Open(%x): %x, %d; should be %x, %d", promise, b, got, e, want, we)
	}
}

// P3.1: the sums that the chapter tells, and one of each single byte and of bodies of many lengths.
func TestSum(t *testing.T) {
	if s := crc.Sum([]byte("123456789")); s != 0x29B1 {
		t.Errorf("P3.1: the sum of 123456789 is %X", s)
	}
	if crc.Sum() != 65535 || crc.Sum(nil) != 65535 || crc.Sum([]byte{}, nil, []byte{}) != 65535 {
		t.Errorf("P3.1: the sum of nothing is %d, %d, %d", crc.Sum(), crc.Sum(nil), crc.Sum([]byte{}, nil, []byte{}))
	}
	if s := crc.Sum([]byte{0}); s != 0xE1F0 {
		t.Errorf("P3.1: the sum of 00 is %X", s)
	}
	if s := crc.Sum([]byte{0, 0}); s != 0x1D0F {
		t.Errorf("P3.1: the sum of 00 00 is %X", s)
	}
	if s := crc.Sum([]byte{0xFF, 0xFF}); s != 0 {
		t.Errorf("P3.1: the sum of FF FF is %X", s)
	}
	for x := range 256 {
		if s := crc.Sum([]byte{byte(x)}); s != divided([]byte{byte(x)}) {
			t.Errorf("P3.1: the sum of %02x is %X", x, s)
		}
	}
	for _, b := range bodies() {
		if s := crc.Sum(b); s != divided(b) {
			t.Errorf("P3.1: the sum of %x is %X, should be %X", b, s, divided(b))
		}
	}
}

// P3.1: only the concatenation counts, wherever it is cut, and in the order of the arguments.
func TestSumOfPieces(t *testing.T) {
	whole := []byte("123456789")
	for i := range len(whole) + 1 {
		for j := i; j <= len(whole); j++ {
			if s := crc.Sum(whole[:i], whole[i:j], nil, whole[j:]); s != 0x29B1 {
				t.Errorf("P3.1: cut at %d and %d: %X", i, j, s)
			}
			if b := crc.Seal(whole[:i], whole[i:j], nil, whole[j:]); string(b) != "123456789\x29\xb1" {
				t.Errorf("P3.1: cut at %d and %d: %x", i, j, b)
			}
		}
	}
	if crc.Sum([]byte("1"), []byte("2")) == crc.Sum([]byte("2"), []byte("1")) {
		t.Error("P3.1: the order of the arguments doesn't count")
	}
	var bytewise [][]byte
	for i := range whole {
		bytewise = append(bytewise, whole[i:i+1])
	}
	if s := crc.Sum(bytewise...); s != 0x29B1 {
		t.Errorf("P3.1: byte by byte: %X", s)
	}
}

// P3.1: the sum stands behind the bytes, its most significant byte first.
func TestSeal(t *testing.T) {
	for _, b := range bodies() {
		if got := crc.Seal(b); !bytes.Equal(got, withSum(b)) {
			t.Errorf("P3.1: Seal(%x): %x, should be %x", b, got, withSum(b))
		}
	}
	if b := crc.Seal(); !bytes.Equal(b, []byte{0xFF, 0xFF}) {
		t.Errorf("P3.1: nothing sealed is %x", b)
	}
	if b := crc.Seal(crc.Seal([]byte{7})); !bytes.Equal(b, append(withSum([]byte{7}), 0, 0)) {
		t.Errorf("P3.1: sealed twice: %x", b)
	}
}

// P3.2: fewer than two bytes are short, whatever they are.
func TestOpenShort(t *testing.T) {
	isOpen(t, "P3.2", nil, nil, api.ErrShort)
	isOpen(t, "P3.2", []byte{}, nil, api.ErrShort)
	for x := range 256 {
		isOpen(t, "P3.2", []byte{byte(x)}, nil, api.ErrShort)
	}
	isOpen(t, "P3.2", []byte{0xFF, 0xFF}[:1], nil, api.ErrShort)
}

// P3.2: of all two bytes, FF FF alone are a sum (of nothing).
func TestOpenTwoBytes(t *testing.T) {
	for n := range 65535 {
		isOpen(t, "P3.2", []byte{byte(n / 256), byte(n % 256)}, nil, api.ErrSum)
	}
	isOpen(t, "P3.2", []byte{0xFF, 0xFF}, nil, api.OK)
}

// P3.2: for one body, one sum of 65536 opens.
func TestOpenOneSum(t *testing.T) {
	body := []byte("123456789")
	for n := range 65536 {
		b := append(slices.Clone(body), byte(n/256), byte(n%256))
		if n == 0x29B1 {
			isOpen(t, "P3.2", b, body, api.OK)
		} else {
			isOpen(t, "P3.2", b, nil, api.ErrSum)
		}
	}
}

// P3.2: a sealed body that is cut, is longer, or has its sum turned round doesn't open.
func TestOpenWrong(t *testing.T) {
	sealed := withSum([]byte("123456789"))
	for i := range len(sealed) {
		want := api.ErrSum
		if i < 2 {
			want = api.ErrShort
		}
		isOpen(t, "P3.2", sealed[:i], nil, want)
	}
	isOpen(t, "P3.2", append(slices.Clone(sealed), 7), nil, api.ErrSum)
	isOpen(t, "P3.2", append([]byte{7}, sealed...), nil, api.ErrSum)
	isOpen(t, "P3.2", append(slices.Clone(sealed[:9]), sealed[10], sealed[9]), nil, api.ErrSum)
	isOpen(t, "P3.2", append([]byte{0x29, 0xB1}, sealed[:9]...), nil, api.ErrSum)
}

// P3.3: what was sealed comes back.
func TestOpenOfSeal(t *testing.T) {
	for _, b := range bodies() {
		isOpen(t, "P3.3", crc.Seal(b), b, api.OK)
		for _, c := range bodies() {
			isOpen(t, "P3.3", crc.Seal(b, c), slices.Concat(b, c), api.OK)
		}
	}
}

// P3.3: no change within 16 consecutive bits opens; a change of 17 bits may.
func TestOpenOfChanged(t *testing.T) {
	body := []byte{0x31, 0, 0xFF}
	sealed := crc.Seal(body)
	for place := range len(sealed)*8 - 15 {
		for mask := 1; mask < 65536; mask++ {
			changed := inverted(sealed, place, mask)
			if got, e := crc.Open(changed); e != api.ErrSum || len(got) != 0 {
				t.Fatalf("P3.3: %x changed by %x at %d: %x, %d", sealed, mask, place, got, e)
			}
		}
	}
	isOpen(t, "P3.3", []byte{0x31 ^ 0x11, 0 ^ 0x02, 0xFF ^ 0x10, sealed[3], sealed[4]}, []byte{0x20, 2, 0xEF}, api.OK)
	for _, b := range bodies() {
		sealed := crc.Seal(b)
		for place := range len(sealed)*8 - 15 {
			for _, mask := range []int{0x8000, 0xFFFF, 0x8001, 0x1021, 0x8810, 1} {
				isOpen(t, "P3.3", inverted(sealed, place, mask), nil, api.ErrSum)
			}
		}
	}
}

// P3.3: a result shares memory with no other and with no argument, in its spare capacity neither.
func TestNewMemory(t *testing.T) {
	for _, b := range bodies() {
		arg := slices.Clone(b)
		first, second := crc.Seal(arg), crc.Seal(arg)
		scribble(first)
		if !bytes.Equal(second, withSum(b)) || !bytes.Equal(arg, b) {
			t.Errorf("P3.3: Seal(%x) shares memory: %x, %x", b, second, arg)
		}
		opened, _ := crc.Open(second)
		again, _ := crc.Open(second)
		scribble(opened)
		if !bytes.Equal(again, b) || !bytes.Equal(second, withSum(b)) {
			t.Errorf("P3.3: Open(%x) shares memory: %x", second, again)
		}
		scribble(second)
		if !bytes.Equal(again, b) {
			t.Errorf("P3.3: Open keeps its argument: %x", again)
		}
	}
}

// P3.3: arguments, and what lies behind them in their memory, are neither changed nor kept.
func TestArgumentsStay(t *testing.T) {
	room := []byte("123456789 and what lies behind")
	was := slices.Clone(room)
	pieces := [][]byte{room[:4], room[4:9], room[9:9]}
	sealed := crc.Seal(pieces[:2]...)
	crc.Sum(pieces...)
	crc.Seal(room[:9])
	crc.Open(room[:9])
	crc.Open(room[:1])
	if !bytes.Equal(room, was) || len(pieces[0]) != 4 || len(pieces[1]) != 5 || len(pieces[2]) != 0 {
		t.Errorf("P3.3: arguments were changed: %q", room)
	}
	scribble(room)
	if string(sealed) != "123456789\x29\xb1" || crc.Sum(was[:9]) != 0x29B1 {
		t.Errorf("P3.3: arguments were kept: %x", sealed)
	}
}

// P3.2: a good seal inside a greater slice opens to the same bytes, and what lies behind it doesn't count.
func TestSpareBehindOpen(t *testing.T) {
	room := append(withSum([]byte("abc")), 1, 2, 3, 4)
	isOpen(t, "P3.2", room[:5], []byte("abc"), api.OK)
	if !bytes.Equal(room[5:], []byte{1, 2, 3, 4}) {
		t.Errorf("P3.3: what lies behind was changed: %x", room)
	}
}

// P1: great and many arguments end, too.
func TestMany(t *testing.T) {
	great := noise(1<<20, 3)
	if b, e := crc.Open(crc.Seal(great)); !bytes.Equal(b, great) || e != api.OK {
		t.Errorf("P1: a great body: %d bytes, %d", len(b), e)
	}
	if s := crc.Sum(make([][]byte, 1<<16)...); s != 65535 {
		t.Errorf("P1: many pieces of nothing: %d", s)
	}
}
