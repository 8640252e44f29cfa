package bits_test

import (
	"bytes"
	"math"
	"slices"
	"strconv"
	"strings"
	"testing"

	"farebox/api"
	"farebox/bits"
)

func f(width, value int) bits.Field {
	return bits.Field{Width: width, Value: value}
}

// text writes a field as zeros and ones, by another way than the package's.
func text(x bits.Field) string {
	s := strconv.FormatInt(int64(x.Value), 2)
	return strings.Repeat("0", max(0, x.Width-len(s))) + s
}

func texts(fs []bits.Field) string {
	s := ""
	for _, x := range fs {
		s += text(x)
	}
	return s
}

// packed is the bytes of zeros and ones, filled up with zeros.
func packed(s string) []byte {
	for len(s)%8 != 0 {
		s += "0"
	}
	var b []byte
	for ; s != ""; s = s[8:] {
		n, _ := strconv.ParseUint(s[:8], 2, 8)
		b = append(b, byte(n))
	}
	return b
}

func isWriter(t *testing.T, what string, w *bits.Writer, s string) {
	t.Helper()
	if w.Len() != len(s) || !bytes.Equal(w.Bytes(), packed(s)) {
		t.Errorf("%s: %d bits, %x; should be %d, %x", what, w.Len(), w.Bytes(), len(s), packed(s))
	}
}

func isReader(t *testing.T, what string, r *bits.Reader, e api.Errno, left int) {
	t.Helper()
	if r.Err() != e || r.Left() != left {
		t.Errorf("%s: error %d, %d left; should be %d, %d", what, r.Err(), r.Left(), e, left)
	}
}

func takes(t *testing.T, what string, r *bits.Reader, widths []int, ns ...int) {
	t.Helper()
	if got := r.Take(widths...); !slices.Equal(got, ns) {
		t.Errorf("%s: %v; should be %v", what, got, ns)
	}
}

// fields are some of every width, made by a fixed rule.
func fields(count int) []bits.Field {
	var fs []bits.Field
	seed := uint64(7)
	for range count {
		seed = seed*6364136223846793005 + 1442695040888963407
		width := 1 + int(seed>>59)
		fs = append(fs, f(width, int(seed>>20&(1<<width-1))))
	}
	return fs
}

func widthsOf(fs []bits.Field) (widths, values []int) {
	for _, x := range fs {
		widths = append(widths, x.Width)
		values = append(values, x.Value)
	}
	return widths, values
}

// P1.1: the chapter's examples.
func TestPutExamples(t *testing.T) {
	var w bits.Writer
	isWriter(t, "P1.1: new", &w, "")
	if e := w.Put(f(3, 5), f(5, 1)); e != api.OK || !bytes.Equal(w.Bytes(), []byte{0xA1}) || w.Len() != 8 {
		t.Errorf("P1.1: %d, %x, %d", e, w.Bytes(), w.Len())
	}
	if e := w.Put(f(1, 1)); e != api.OK || !bytes.Equal(w.Bytes(), []byte{0xA1, 0x80}) || w.Len() != 9 {
		t.Errorf("P1.1: %d, %x, %d", e, w.Bytes(), w.Len())
	}
	if e := w.Put(f(2, 4)); e != api.ErrArg {
		t.Errorf("P1.1: %d", e)
	}
	isWriter(t, "P1.1: after a wrong field", &w, "101000011")
}

// P1.1: every width takes the least and the greatest value, and refuses those beside them.
func TestPutEdgesOfEachWidth(t *testing.T) {
	for width := 1; width <= 32; width++ {
		var w bits.Writer
		top := 1<<width - 1
		for _, v := range []int{0, 1, top - 1, top} {
			if e := w.Put(f(width, v)); e != api.OK {
				t.Errorf("P1.1: width %d, value %d: %d", width, v, e)
			}
		}
		s := texts([]bits.Field{f(width, 0), f(width, 1), f(width, top-1), f(width, top)})
		isWriter(t, "P1.1: width "+strconv.Itoa(width), &w, s)
		for _, v := range []int{-1, math.MinInt, -top, top + 1, top + 2, 1 << 33, math.MaxInt} {
			if e := w.Put(f(width, v)); e != api.ErrArg {
				t.Errorf("P1.1: width %d, value %d: %d", width, v, e)
			}
		}
		isWriter(t, "P1.1: after wrong values", &w, s)
	}
}

// P1.1: widths of which there are none.
func TestPutWrongWidths(t *testing.T) {
	var w bits.Writer
	w.Put(f(3, 5))
	for _, width := range []int{math.MinInt, -33, -1, 0, 33, 34, 63, 64, 1 << 32, math.MaxInt} {
		for _, v := range []int{0, 1, -1, math.MaxInt, math.MinInt} {
			if e := w.Put(f(width, v)); e != api.ErrArg {
				t.Errorf("P1.1: width %d, value %d: %d", width, v, e)
			}
		}
	}
	isWriter(t, "P1.1: after wrong widths", &w, "101")
}

// P1.1: one wrong field, wherever it stands, and nothing is written.
func TestPutAllOrNothing(t *testing.T) {
	good := []bits.Field{f(1, 1), f(9, 300), f(32, 1<<32-1), f(4, 6)}
	for _, wrong := range []bits.Field{f(0, 0), f(33, 0), f(2, 4), f(2, -1)} {
		for at := range len(good) + 1 {
			var w bits.Writer
			w.Put(f(5, 9))
			if e := w.Put(slices.Insert(slices.Clone(good), at, wrong)...); e != api.ErrArg {
				t.Errorf("P1.1: %v at %d: %d", wrong, at, e)
			}
			isWriter(t, "P1.1: after a wrong field among others", &w, "01001")
			if e := w.Put(f(3, 7)); e != api.OK {
				t.Errorf("P1.1: a right field after a wrong one: %d", e)
			}
			isWriter(t, "P1.1: a right field after a wrong one", &w, "01001111")
		}
	}
}

// P1.1: no fields are no bits, and no error.
func TestPutNothing(t *testing.T) {
	var w bits.Writer
	if e := w.Put(); e != api.OK {
		t.Errorf("P1.1: %d", e)
	}
	isWriter(t, "P1.1: nothing put", &w, "")
	w.Put(f(9, 257))
	if e := w.Put([]bits.Field{}...); e != api.OK {
		t.Errorf("P1.1: %d", e)
	}
	isWriter(t, "P1.1: nothing put behind something", &w, "100000001")
}

// P1.1: many fields, at once and one by one, are the same bits.
func TestPutManyFields(t *testing.T) {
	fs := fields(500)
	var once, single bits.Writer
	if e := once.Put(fs...); e != api.OK {
		t.Fatalf("P1.1: %d", e)
	}
	s := ""
	for _, x := range fs {
		if e := single.Put(x); e != api.OK {
			t.Fatalf("P1.1: %v: %d", x, e)
		}
		s += text(x)
		isWriter(t, "P1.1: one by one", &single, s)
	}
	isWriter(t, "P1.1: at once", &once, s)
}

// P1.2: the chapter's examples.
func TestTakeExamples(t *testing.T) {
	r := bits.Read([]byte{0xA1})
	isReader(t, "P1.2: new", r, api.OK, 8)
	takes(t, "P1.2: 3 and 5 bits", r, []int{3, 5}, 5, 1)
	isReader(t, "P1.2: at the end", r, api.OK, 0)
	takes(t, "P1.2: past the end", r, []int{1})
	isReader(t, "P1.2: past the end", r, api.ErrShort, 0)
}

// P1.2: every width, off the edge of a byte too.
func TestTakeEachWidth(t *testing.T) {
	b := []byte{0x96, 0x3C, 0xF0, 0x5A, 0xC7}
	s := ""
	for _, x := range b {
		s += text(f(8, int(x)))
	}
	for skip := 1; skip <= 8; skip++ {
		for width := 1; width <= 32; width++ {
			r := bits.Read(b)
			first, _ := strconv.ParseInt(s[:skip], 2, 64)
			takes(t, "P1.2: first", r, []int{skip}, int(first))
			n, _ := strconv.ParseInt(s[skip:skip+width], 2, 64)
			takes(t, "P1.2: width "+strconv.Itoa(width), r, []int{width}, int(n))
			isReader(t, "P1.2: width "+strconv.Itoa(width), r, api.OK, 40-skip-width)
		}
	}
}

// P1.2: a wrong width takes nothing, wherever it stands, and comes ahead of ErrShort.
func TestTakeWrongWidths(t *testing.T) {
	for _, wrong := range []int{math.MinInt, -1, 0, 33, 64, 1 << 32, math.MaxInt} {
		for _, widths := range [][]int{{wrong}, {wrong, 3}, {3, wrong}, {3, wrong, 3}, {32, 32, wrong}, {wrong, 32, 32}, {wrong, wrong}} {
			r := bits.Read([]byte{0xA1, 0xB2})
			takes(t, "P1.2: ahead", r, []int{2}, 2)
			takes(t, "P1.2: a wrong width", r, widths)
			isReader(t, "P1.2: a wrong width", r, api.ErrArg, 14)
		}
	}
	r := bits.Read(nil)
	takes(t, "P1.2: a wrong width of nothing", r, []int{0})
	isReader(t, "P1.2: a wrong width of nothing", r, api.ErrArg, 0)
}

// P1.2: what is left is taken to the last bit, and not one more; of several widths none, if their sum is too great.
func TestTakeShort(t *testing.T) {
	for _, widths := range [][]int{{17}, {32}, {16, 1}, {1, 16}, {8, 8, 1}, {5, 5, 5, 5}, {32, 32}} {
		r := bits.Read([]byte{0xA1, 0xB2})
		takes(t, "P1.2: too much", r, widths)
		isReader(t, "P1.2: too much", r, api.ErrShort, 16)
	}
	r := bits.Read([]byte{0xA1, 0xB2})
	takes(t, "P1.2: all", r, []int{16}, 0xA1B2)
	isReader(t, "P1.2: all", r, api.OK, 0)
	r = bits.Read([]byte{0xA1, 0xB2})
	takes(t, "P1.2: ahead", r, []int{4}, 10)
	takes(t, "P1.2: all that is left", r, []int{1, 11}, 0, 0x1B2)
	isReader(t, "P1.2: all that is left", r, api.OK, 0)
	r = bits.Read([]byte{0xA1, 0xB2})
	takes(t, "P1.2: ahead", r, []int{4}, 10)
	takes(t, "P1.2: one bit too many", r, []int{13})
	isReader(t, "P1.2: one bit too many", r, api.ErrShort, 12)
	for _, b := range [][]byte{nil, {}} {
		r = bits.Read(b)
		isReader(t, "P1.2: nothing", r, api.OK, 0)
		takes(t, "P1.2: a bit of nothing", r, []int{1})
		isReader(t, "P1.2: a bit of nothing", r, api.ErrShort, 0)
	}
}

// P1.2: many widths for which there are no bits end at once.
func TestTakeManyWidths(t *testing.T) {
	widths := make([]int, 1<<20)
	for i := range widths {
		widths[i] = 32
	}
	r := bits.Read([]byte{0xFF})
	takes(t, "P1.2: many widths", r, widths)
	isReader(t, "P1.2: many widths", r, api.ErrShort, 8)
}

// P1.2: the first error stays, and nothing is taken beside it.
func TestTakeAfterError(t *testing.T) {
	for _, first := range []struct {
		width int
		e     api.Errno
	}{{0, api.ErrArg}, {33, api.ErrArg}, {9, api.ErrShort}} {
		r := bits.Read([]byte{0xA1})
		takes(t, "P1.2: the first error", r, []int{first.width})
		for _, widths := range [][]int{{1}, {8}, {}, {0}, {33}, {9}, {3, 5}} {
			takes(t, "P1.2: after an error", r, widths)
			isReader(t, "P1.2: after an error", r, first.e, 8)
		}
	}
}

// P1.2: no widths take nothing, and are no error.
func TestTakeNothing(t *testing.T) {
	for _, b := range [][]byte{nil, {0xA1}} {
		r := bits.Read(b)
		takes(t, "P1.2: no widths", r, nil)
		takes(t, "P1.2: no widths", r, []int{})
		isReader(t, "P1.2: no widths", r, api.OK, 8*len(b))
	}
}

// P1.3: what was put is taken so, at once, one by one, and in pieces.
func TestPutThenTake(t *testing.T) {
	fs := fields(400)
	var w bits.Writer
	if e := w.Put(fs...); e != api.OK {
		t.Fatalf("P1.3: %d", e)
	}
	widths, values := widthsOf(fs)
	r := bits.Read(w.Bytes())
	takes(t, "P1.3: at once", r, widths, values...)
	isReader(t, "P1.3: at once", r, api.OK, 8*len(w.Bytes())-w.Len())
	for _, piece := range []int{1, 3, 50} {
		r = bits.Read(w.Bytes())
		for i := 0; i < len(fs); i += piece {
			end := min(i+piece, len(fs))
			takes(t, "P1.3: in pieces", r, widths[i:end], values[i:end]...)
		}
		isReader(t, "P1.3: in pieces", r, api.OK, 8*len(w.Bytes())-w.Len())
	}
}

// P1.3: each value of the small widths, behind each number of bits.
func TestPutThenTakeSmallWidths(t *testing.T) {
	for ahead := 1; ahead <= 8; ahead++ {
		for width := 1; width <= 9; width++ {
			for v := range 1 << width {
				var w bits.Writer
				w.Put(f(ahead, 1), f(width, v), f(1, 1))
				r := bits.Read(w.Bytes())
				takes(t, "P1.3: small widths", r, []int{ahead, width, 1}, 1, v, 1)
			}
		}
	}
}

// scribble changes all that a result's holder can reach, the spare capacity too.
func scribble[T any](s []T, x T) {
	for i := range s[:cap(s)] {
		s[:cap(s)][i] = x
	}
}

// P1.3: a result that is changed by the caller changes nothing in a writer.
func TestBytesAreNew(t *testing.T) {
	var w bits.Writer
	s := ""
	for _, x := range fields(60) {
		w.Put(x)
		s += text(x)
		b, c := w.Bytes(), w.Bytes()
		scribble(b, 0xEE)
		if !bytes.Equal(c, packed(s)) {
			t.Fatalf("P1.3: two results share memory: %x", c)
		}
		isWriter(t, "P1.3: after a result was changed", &w, s)
	}
}

// P1.3: a result stays as it is while the writer goes on.
func TestBytesStay(t *testing.T) {
	var w bits.Writer
	w.Put(f(9, 257))
	b := w.Bytes()
	all := slices.Clone(b[:cap(b)])
	w.Put(f(32, 1<<32-1), f(32, 1<<32-1))
	if !bytes.Equal(b, []byte{0x80, 0x80}) || !bytes.Equal(b[:cap(b)], all) {
		t.Errorf("P1.3: %x", b)
	}
}

// P1.3: arguments of Put are neither changed nor kept.
func TestPutLeavesArguments(t *testing.T) {
	room := fields(20)
	was := slices.Clone(room)
	var w bits.Writer
	w.Put(room[:12]...)
	if !slices.Equal(room, was) {
		t.Errorf("P1.3: %v", room)
	}
	scribble(room, f(1, 1))
	isWriter(t, "P1.3: after the fields were changed", &w, texts(was[:12]))
}

// P1.3: the bytes of a reader are its own, as are its numbers.
func TestReaderLeavesArguments(t *testing.T) {
	room := []byte{0xA1, 0xB2, 0xC3, 0xD4}
	was := slices.Clone(room)
	widths := []int{4, 4, 8, 8}
	r, other := bits.Read(room[:3]), bits.Read(room[:3])
	got := r.Take(widths[:2]...)
	if !bytes.Equal(room, was) || !slices.Equal(widths, []int{4, 4, 8, 8}) {
		t.Errorf("P1.3: %x, %v", room, widths)
	}
	scribble(room, 0xEE)
	scribble(widths, 1)
	if !slices.Equal(got, []int{10, 1}) {
		t.Errorf("P1.3: numbers share memory with widths: %v", got)
	}
	scribble(got, 99)
	takes(t, "P1.3: after the bytes were changed", r, []int{8, 8}, 0xB2, 0xC3)
	isReader(t, "P1.3: after the bytes were changed", r, api.OK, 0)
	takes(t, "P1.3: another reader", other, []int{8, 8, 8}, 0xA1, 0xB2, 0xC3)
}

// P1.3: results of Take do not share memory with one another.
func TestNumbersAreNew(t *testing.T) {
	r := bits.Read([]byte{0xA1, 0xB2})
	first := r.Take(4, 4)
	second := r.Take(4, 4)
	scribble(first, 99)
	if !slices.Equal(second, []int{11, 2}) {
		t.Errorf("P1.3: %v", second)
	}
}

// P1: whatever the numbers, every call ends and does not panic.
func TestNoPanic(t *testing.T) {
	edges := []int{math.MinInt, math.MinInt + 1, -1 << 32, -1, 0, 1, 2, 31, 32, 33, 63, 64, 65, 1 << 31, 1 << 32, math.MaxInt - 1, math.MaxInt}
	for _, a := range edges {
		for _, b := range edges {
			var w bits.Writer
			e := w.Put(f(a, b), f(b, a))
			if e != api.OK && w.Len() != 0 || e == api.OK && w.Len() != a+b {
				t.Errorf("P1: {%d %d}: %d, %d", a, b, e, w.Len())
			}
			r := bits.Read([]byte{1, 2, 3, 4, 5})
			got := r.Take(a, b)
			if r.Err() != api.OK && len(got) != 0 || r.Err() == api.OK && len(got) != 2 {
				t.Errorf("P1: %d, %d: %v", a, b, got)
			}
		}
	}
}
