package tlv_test

import (
	"bytes"
	"math"
	"slices"
	"testing"

	"farebox/api"
	"farebox/tlv"
)

func el(tag int, content ...byte) api.Elem {
	return api.Elem{Tag: tag, Bytes: content}
}

func with(tag int, inner ...api.Elem) api.Elem {
	return api.Elem{Tag: tag, Elems: inner}
}

func list(es ...api.Elem) []api.Elem {
	return es
}

// wrapped is an element inside so many others.
func wrapped(e api.Elem, levels int) api.Elem {
	for range levels {
		e = with(200, e)
	}
	return e
}

// deepCopy is for holding arguments against what they were.
func deepCopy(es []api.Elem) []api.Elem {
	var c []api.Elem
	for _, e := range es {
		c = append(c, api.Elem{Tag: e.Tag, Bytes: slices.Clone(e.Bytes), Elems: deepCopy(e.Elems)})
	}
	return c
}

// equal is what Same should tell, by another way: the pairs that are yet to be held against each other wait in a list.
func equal(a, b []api.Elem) bool {
	type pair struct{ a, b []api.Elem }
	for wait := []pair{{a, b}}; len(wait) > 0; {
		p := wait[0]
		wait = wait[1:]
		if len(p.a) != len(p.b) {
			return false
		}
		for i := range p.a {
			if p.a[i].Tag != p.b[i].Tag || string(p.a[i].Bytes) != string(p.b[i].Bytes) {
				return false
			}
			wait = append(wait, pair{p.a[i].Elems, p.b[i].Elems})
		}
	}
	return true
}

// placed is an element, in how many others it lies, and the tag ahead of it in its list.
type placed struct {
	api.Elem
	depth, ahead int
}

func flattened(es []api.Elem, depth int) []placed {
	var all []placed
	ahead := 0
	for _, e := range es {
		all = append(all, placed{e, depth, ahead})
		all = append(all, flattened(e.Elems, depth+1)...)
		ahead = e.Tag
	}
	return all
}

func (p placed) wrong() bool {
	return p.Tag < 1 || p.Tag > 255 || p.ahead >= p.Tag || p.Tag < 128 && len(p.Elems) > 0 || p.Tag > 127 && len(p.Bytes) > 0
}

// sizeOf is the length of elements' encoding.
func sizeOf(es []api.Elem) int {
	n := 0
	for _, p := range flattened(es, 0) {
		n += 2 + len(p.Bytes)
	}
	return n
}

// encoded is what Put should tell, by another way: all elements in one row, each error asked of all of them, the bytes row by row.
func encoded(es []api.Elem) ([]byte, api.Errno) {
	row := flattened(es, 0)
	if slices.ContainsFunc(row, func(p placed) bool { return p.depth > 3 }) {
		return nil, api.ErrNest
	}
	if slices.ContainsFunc(row, placed.wrong) {
		return nil, api.ErrArg
	}
	var b []byte
	for _, p := range row {
		size := len(p.Bytes) + sizeOf(p.Elems)
		if size > 255 {
			return nil, api.ErrLong
		}
		b = append(append(b, byte(p.Tag), byte(size)), p.Bytes...)
	}
	return b, api.OK
}

// firstError is the error that Get should tell, by another way: the lists that are open lie on a stack.
func firstError(b []byte) api.Errno {
	type open struct{ end, last int }
	lists := []open{{len(b), 0}}
	for at := 0; ; {
		for at == lists[len(lists)-1].end {
			if lists = lists[:len(lists)-1]; len(lists) == 0 {
				return api.OK
			}
		}
		here := &lists[len(lists)-1]
		tag := int(b[at])
		switch {
		case len(lists) > 4:
			return api.ErrNest
		case tag == 0 || tag <= here.last:
			return api.ErrForm
		case at+1 == here.end || at+2+int(b[at+1]) > here.end:
			return api.ErrShort
		}
		here.last = tag
		size := int(b[at+1])
		at += 2
		if tag > 127 {
			lists = append(lists, open{at + size, 0})
		} else {
			at += size
		}
	}
}

// dice are numbers made by a fixed rule.
type dice uint64

func (d *dice) below(n int) int {
	*d = *d*6364136223846793005 + 1442695040888963407
	return int(uint64(*d)>>33) % n
}

func (d *dice) bytes(count int) []byte {
	var b []byte
	for range count {
		b = append(b, byte(d.below(256)))
	}
	return b
}

// elems are elements that are valid, if no content got too long.
func (d *dice) elems(levels int) []api.Elem {
	var es []api.Elem
	for tag := 1 + d.below(120); tag < 256 && len(es) < 5; tag += 1 + d.below(90) {
		if tag < 128 {
			es = append(es, el(tag, d.bytes(d.below(6))...))
		} else if levels > 1 {
			es = append(es, with(tag, d.elems(levels-1)...))
		} else {
			es = append(es, with(tag))
		}
	}
	return es
}

// spoil changes one thing of one element somewhere among es.
func (d *dice) spoil(es []api.Elem) {
	for len(es) > 0 {
		e := &es[d.below(len(es))]
		if len(e.Elems) > 0 && d.below(3) > 0 {
			es = e.Elems
			continue
		}
		switch d.below(5) {
		case 0:
			e.Tag = d.below(260) - 2
		case 1:
			e.Bytes = d.bytes(250 + d.below(10))
		case 2:
			e.Elems = list(wrapped(el(1), d.below(4)))
		case 3:
			e.Bytes, e.Elems = nil, list(el(5), el(5))
		default:
			e.Tag, e.Bytes = 1+d.below(127), d.bytes(d.below(300))
		}
		return
	}
}

func isPut(t *testing.T, promise string, es []api.Elem, want []byte, we api.Errno) {
	t.Helper()
	if got, e := tlv.Put(es...); !bytes.Equal(got, want) || e != we {
		t.Errorf("%s: Put(%v): %x, %d; should be %x, %d", promise, es, got, e, want, we)
	}
}

func isGet(t *testing.T, promise string, b []byte, want []api.Elem, we api.Errno) {
	t.Helper()
	if got, e := tlv.Get(b); !equal(got, want) || e != we {
		t.Errorf("%s: Get(%x): %v, %d; should be %v, %d", promise, b, got, e, want, we)
	}
}

// isRead holds Get against firstError, and its elements against the bytes.
func isRead(t *testing.T, b []byte) {
	t.Helper()
	es, e := tlv.Get(b)
	if want := firstError(b); e != want || e != api.OK && len(es) != 0 {
		t.Fatalf("P4.2: Get(%x): %v, %d; should be %d", b, es, e, want)
	}
	if e != api.OK {
		return
	}
	if again, pe := encoded(es); !bytes.Equal(again, b) || pe != api.OK {
		t.Fatalf("P4.2: Get(%x): %v, which is %x", b, es, again)
	}
	if again, pe := tlv.Put(es...); !bytes.Equal(again, b) || pe != api.OK {
		t.Fatalf("P4.5: Put(Get(%x)): %x, %d", b, again, pe)
	}
}

// P4.1, P4.2: the chapter's examples.
func TestExamples(t *testing.T) {
	es := list(el(1, 5), with(225, el(2)))
	b := []byte{0x01, 0x01, 0x05, 0xE1, 0x02, 0x02, 0x00}
	isPut(t, "P4.1", es, b, api.OK)
	isGet(t, "P4.2", b, es, api.OK)
	isGet(t, "P4.2", b[:6], nil, api.ErrShort)
	isGet(t, "P4.2", []byte{2, 0, 1, 0}, nil, api.ErrForm)
	isGet(t, "P4.2", []byte{0, 0}, nil, api.ErrForm)
	isGet(t, "P4.2", []byte{1}, nil, api.ErrShort)
	isGet(t, "P4.2", []byte{1, 2, 5}, nil, api.ErrShort)
	isPut(t, "P4.1", list(el(2), el(1)), nil, api.ErrArg)
}

// P4.1: nothing is encoded by nothing.
func TestPutNothing(t *testing.T) {
	isPut(t, "P4.1", nil, nil, api.OK)
	isPut(t, "P4.1", []api.Elem{}, nil, api.OK)
	isPut(t, "P4.1", list(api.Elem{Tag: 1, Bytes: []byte{}, Elems: []api.Elem{}}), []byte{1, 0}, api.OK)
	isPut(t, "P4.1", list(api.Elem{Tag: 128, Bytes: []byte{}, Elems: []api.Elem{}}), []byte{128, 0}, api.OK)
}

// P4.1: every tag from 1 to 127 has bytes alone, every tag from 128 to 255 elements alone, on each level.
func TestPutEachTag(t *testing.T) {
	for tag := 1; tag <= 255; tag++ {
		flat, nested := el(tag, 7, 9), with(tag, el(3))
		both := api.Elem{Tag: tag, Bytes: []byte{7}, Elems: list(el(3))}
		for levels := range 3 {
			prefix := []byte{}
			for i := levels; i > 0; i-- {
				prefix = append(prefix, 200, byte(2*i+2))
			}
			if tag <= 127 {
				isPut(t, "P4.1", list(wrapped(flat, levels)), append(prefix, byte(tag), 2, 7, 9), api.OK)
				isPut(t, "P4.1", list(wrapped(nested, levels)), nil, api.ErrArg)
			} else {
				isPut(t, "P4.1", list(wrapped(flat, levels)), nil, api.ErrArg)
				isPut(t, "P4.1", list(wrapped(nested, levels)), append(prefix, byte(tag), 2, 3, 0), api.OK)
			}
			isPut(t, "P4.1", list(wrapped(both, levels)), nil, api.ErrArg)
		}
	}
}

// P4.1: tags of which there are none, first and behind others, on each level.
func TestPutWrongTags(t *testing.T) {
	for _, tag := range []int{math.MinInt, -256, -128, -1, 0, 256, 257, 383, 384, 511, 1 << 32, 1<<32 + 1, math.MaxInt} {
		for levels := range 4 {
			for _, wrong := range []api.Elem{el(tag), el(tag, 1)} {
				isPut(t, "P4.1", list(wrapped(wrong, levels)), nil, api.ErrArg)
				isPut(t, "P4.1", list(el(1), wrapped(wrong, levels)), nil, api.ErrArg)
				isPut(t, "P4.1", list(wrapped(wrong, levels), with(255)), nil, api.ErrArg)
			}
		}
		isPut(t, "P4.1", list(with(tag, el(1))), nil, api.ErrArg)
	}
}

// P4.1: the tags of one list ascend, those of another list beside or around it don't count.
func TestPutOrder(t *testing.T) {
	for a := 1; a <= 255; a++ {
		for _, b := range []int{1, a - 1, a, a + 1, 127, 128, 255} {
			es := list(api.Elem{Tag: a}, api.Elem{Tag: b})
			inner := list(with(200, es...))
			if b > a && b <= 255 {
				isPut(t, "P4.1", es, []byte{byte(a), 0, byte(b), 0}, api.OK)
				isPut(t, "P4.1", inner, []byte{200, 4, byte(a), 0, byte(b), 0}, api.OK)
			} else {
				isPut(t, "P4.1", es, nil, api.ErrArg)
				isPut(t, "P4.1", inner, nil, api.ErrArg)
			}
		}
	}
	isPut(t, "P4.1", list(el(1), el(3), el(2)), nil, api.ErrArg)
	isPut(t, "P4.1", list(el(1), el(2), el(2)), nil, api.ErrArg)
	isPut(t, "P4.1", list(el(9), with(200, el(9)), with(201, el(8), with(200))), []byte{9, 0, 200, 2, 9, 0, 201, 4, 8, 0, 200, 0}, api.OK)
}

// P4.1: a content of 255 bytes is right, one more is too long; the whole may be longer.
func TestPutLength(t *testing.T) {
	for _, n := range []int{0, 1, 127, 128, 253, 254, 255} {
		content := bytes.Repeat([]byte{6}, n)
		isPut(t, "P4.1", list(el(7, content...)), append([]byte{7, byte(n)}, content...), api.OK)
		if n <= 253 {
			isPut(t, "P4.1", list(with(128, el(7, content...))), append([]byte{128, byte(n + 2), 7, byte(n)}, content...), api.OK)
		} else {
			isPut(t, "P4.1", list(with(128, el(7, content...))), nil, api.ErrLong)
		}
	}
	for _, n := range []int{256, 257, 300, 511, 512, 1 << 16, 1<<16 + 5} {
		for levels := range 4 {
			isPut(t, "P4.1", list(wrapped(el(7, make([]byte, n)...), levels)), nil, api.ErrLong)
			isPut(t, "P4.1", list(el(1), wrapped(el(7, make([]byte, n)...), levels), with(255)), nil, api.ErrLong)
		}
	}
	for n := 240; n <= 260; n++ {
		for levels := 1; levels <= 3; levels++ {
			es := list(wrapped(el(7, make([]byte, n)...), levels))
			_, e := tlv.Put(es...)
			if n+2*levels <= 255 && e != api.OK || n+2*levels > 255 && e != api.ErrLong {
				t.Errorf("P4.1: %d bytes in %d elements: %d", n, levels, e)
			}
		}
	}
	half := func(tag, n int) api.Elem { return el(tag, make([]byte, n)...) }
	isPut(t, "P4.1", list(with(200, half(1, 125), half(2, 127))), nil, api.ErrLong)
	if b, e := tlv.Put(with(200, half(1, 125), half(2, 126))); len(b) != 257 || e != api.OK {
		t.Errorf("P4.1: a content of 255 bytes in two elements: %d, %d", len(b), e)
	}
}

// P4.1: all 255 tags in one list, each with the longest content, are no content themselves.
func TestPutLongest(t *testing.T) {
	var es []api.Elem
	for tag := 1; tag <= 255; tag++ {
		if tag <= 127 {
			es = append(es, el(tag, bytes.Repeat([]byte{byte(tag)}, 255)...))
		} else {
			es = append(es, with(tag, el(1, bytes.Repeat([]byte{byte(tag)}, 253)...)))
		}
	}
	want, _ := encoded(es)
	isPut(t, "P4.1", es, want, api.OK)
	isGet(t, "P4.2", want, es, api.OK)
	if len(want) != 255*257 {
		t.Errorf("P4.1: %d bytes", len(want))
	}
	isGet(t, "P4.2", append(want, 1, 0), nil, api.ErrForm)
	isGet(t, "P4.2", want[:len(want)-1], nil, api.ErrShort)
}

// P4.1: an element may lie in three others, not in four, whichever it is.
func TestPutNest(t *testing.T) {
	for _, last := range []api.Elem{el(1), el(1, 5), with(200), with(255)} {
		isPut(t, "P4.1", list(wrapped(last, 3)), append([]byte{200, byte(6 + len(last.Bytes)), 200, byte(4 + len(last.Bytes)), 200, byte(2 + len(last.Bytes)), byte(last.Tag), byte(len(last.Bytes))}, last.Bytes...), api.OK)
		for _, levels := range []int{4, 5, 6, 100, 1 << 16} {
			isNest(t, wrapped(last, levels))
			isNest(t, el(1), with(130), wrapped(last, levels), with(255))
		}
	}
	wide := with(200, el(1), with(128), with(200, el(1), with(129, el(1), el(2)), with(200, el(1))), with(201, el(1)))
	if _, e := tlv.Put(wide); e != api.OK {
		t.Errorf("P4.1: wide: %d", e)
	}
	isNest(t, with(199, el(1)), with(200, el(1), with(128), with(200, el(1), with(129, el(1), el(2)), with(200, el(1), with(200, el(1)))), with(201, el(1))))
}

func isNest(t *testing.T, es ...api.Elem) {
	t.Helper()
	if b, e := tlv.Put(es...); len(b) != 0 || e != api.ErrNest {
		t.Errorf("P4.1: too deep: %x, %d", b, e)
	}
}

// P4.1: elements inside primitive ones, and of wrong ones, are nested too.
func TestPutNestInWrong(t *testing.T) {
	for _, tag := range []int{-1, 0, 1, 127, 128, 256} {
		isNest(t, with(tag, with(tag, with(tag, with(tag, el(tag))))))
		isPut(t, "P4.1", list(with(tag, with(tag, with(tag, api.Elem{Tag: 300})))), nil, api.ErrArg)
	}
}

// P4.1: ErrNest comes ahead of ErrArg, that ahead of ErrLong, wherever they stand.
func TestPutFirstError(t *testing.T) {
	deep := wrapped(el(1), 4)
	long := el(2, make([]byte, 256)...)
	longNest := with(201, el(1, make([]byte, 250)...), el(2, 1, 2, 3))
	wrongs := list(el(0), el(256), el(-1), with(1, el(1)), api.Elem{Tag: 202, Bytes: []byte{1}}, with(203, el(2), el(1)))
	for _, wrong := range wrongs {
		for _, tooLong := range []api.Elem{long, longNest} {
			isPut(t, "P4.1", list(wrong, tooLong), nil, api.ErrArg)
			isPut(t, "P4.1", list(tooLong, wrong), nil, api.ErrArg)
			isPut(t, "P4.1", list(with(198, tooLong), with(199, wrong)), nil, api.ErrArg)
			isPut(t, "P4.1", list(with(198, wrong), with(199, tooLong)), nil, api.ErrArg)
			for _, es := range [][]api.Elem{{deep, wrong, tooLong}, {wrong, tooLong, deep}, {tooLong, deep, wrong}, {wrong, deep}, {tooLong, deep}} {
				isNest(t, es...)
			}
		}
	}
	isPut(t, "P4.1", list(with(1, long)), nil, api.ErrArg)
	isPut(t, "P4.1", list(api.Elem{Tag: 200, Bytes: make([]byte, 256)}), nil, api.ErrArg)
	isNest(t, api.Elem{Tag: 0, Bytes: make([]byte, 300), Elems: list(deep)})
}

// P4.1: many elements, right and spoilt, against another way of encoding; each error must have come.
func TestPutMany(t *testing.T) {
	d := dice(11)
	count := map[api.Errno]int{}
	for i := range 20000 {
		es := d.elems(1 + d.below(4))
		for range i % 3 {
			d.spoil(es)
		}
		want, e := encoded(es)
		isPut(t, "P4.1", es, want, e)
		count[e]++
	}
	for _, e := range []api.Errno{api.OK, api.ErrNest, api.ErrArg, api.ErrLong} {
		if count[e] < 100 {
			t.Errorf("%d came %d times: the test is too weak", e, count[e])
		}
	}
}

// P4.2: all rows of up to seven bytes of a few, against another way of reading.
func TestGetAllShort(t *testing.T) {
	few := []byte{0, 1, 2, 3, 5, 127, 128, 255}
	rows := [][]byte{nil}
	for range 7 {
		var longer [][]byte
		for _, row := range rows {
			isRead(t, row)
			for _, x := range few {
				longer = append(longer, append(slices.Clone(row), x))
			}
		}
		rows = longer
	}
	for _, row := range rows {
		isRead(t, row)
	}
}

// P4.2: all rows of one and two bytes, and of three with a length of 0 to 3.
func TestGetEachTag(t *testing.T) {
	for a := range 256 {
		isRead(t, []byte{byte(a)})
		for b := range 256 {
			isRead(t, []byte{byte(a), byte(b)})
			isRead(t, []byte{byte(a), 0, byte(b), 0})
			isRead(t, []byte{200, 4, byte(a), 0, byte(b), 0})
			for n := range 4 {
				isRead(t, []byte{byte(a), byte(n), byte(b)})
				isRead(t, []byte{byte(a), byte(n), byte(b), 0})
			}
		}
	}
}

// P4.2: the errors at one element's beginning, in their order, and the place they come from.
func TestGetFirstError(t *testing.T) {
	for i, c := range []struct {
		b []byte
		e api.Errno
	}{
		{[]byte{200, 8, 200, 6, 200, 4, 200, 2, 1, 0}, api.ErrNest},
		{[]byte{200, 8, 200, 6, 200, 4, 200, 2, 0, 0}, api.ErrNest},
		{[]byte{200, 7, 200, 5, 200, 3, 200, 1, 1}, api.ErrNest},
		{[]byte{200, 7, 200, 5, 200, 3, 200, 1, 0}, api.ErrNest},
		{[]byte{200, 8, 200, 6, 200, 4, 200, 2, 1, 9}, api.ErrNest},
		{[]byte{200, 7, 200, 6, 200, 4, 200, 2, 1}, api.ErrShort},
		{[]byte{200, 9, 200, 6, 200, 4, 200, 2, 1, 0}, api.ErrShort},
		{[]byte{200, 8, 200, 7, 200, 4, 200, 2, 1, 0}, api.ErrShort},
		{[]byte{200, 6, 200, 4, 200, 2, 200, 0}, api.OK},
		{[]byte{200, 6, 200, 4, 200, 2, 1, 0}, api.OK},
		{[]byte{200, 8, 200, 4, 200, 2, 1, 0, 200, 0, 0, 0}, api.ErrForm},
		{[]byte{0}, api.ErrForm},
		{[]byte{0, 9}, api.ErrForm},
		{[]byte{5, 0, 5}, api.ErrForm},
		{[]byte{5, 0, 4}, api.ErrForm},
		{[]byte{5, 0, 5, 9}, api.ErrForm},
		{[]byte{5, 0, 6}, api.ErrShort},
		{[]byte{200, 0, 200}, api.ErrForm},
		{[]byte{200, 2, 1, 1, 5}, api.ErrShort},
		{[]byte{200, 1, 1, 0}, api.ErrShort},
		{[]byte{200, 2, 0, 0, 200, 0}, api.ErrForm},
		{[]byte{200, 1, 1, 0, 0}, api.ErrShort},
		{[]byte{200, 1, 0, 1}, api.ErrForm},
		{[]byte{200, 2, 5, 0, 5, 0}, api.ErrForm},
		{[]byte{200, 2, 5, 0, 201, 2, 4, 0}, api.OK},
		{[]byte{5, 0, 200, 2, 5, 0}, api.OK},
		{[]byte{200, 5, 0, 0}, api.ErrShort},
		{[]byte{1, 255}, api.ErrShort},
	} {
		if es, e := tlv.Get(c.b); e != c.e || e != api.OK && len(es) != 0 {
			t.Errorf("P4.2: %d: %x: %v, %d; should be %d", i, c.b, es, e, c.e)
		}
	}
	isGet(t, "P4.2", nil, nil, api.OK)
	isGet(t, "P4.2", []byte{}, nil, api.OK)
}

// P4.2: encodings that are cut, are longer, or have one byte changed, against another way of reading; each error must have come.
func TestGetChanged(t *testing.T) {
	d := dice(5)
	count := map[api.Errno]int{}
	look := func(b []byte) {
		isRead(t, b)
		_, e := tlv.Get(b)
		count[e]++
	}
	for range 200 {
		b, e := encoded(d.elems(4))
		if e != api.OK || len(b) > 150 {
			continue
		}
		for i := range b {
			look(b[:i])
			changed := slices.Clone(b)
			for _, x := range []byte{0, 1, 2, 127, 128, 200, 255, b[i] - 1, b[i] + 1, byte(d.below(256))} {
				changed[i] = x
				look(changed)
			}
		}
		for range 20 {
			look(append(slices.Clone(b), d.bytes(1+d.below(4))...))
		}
	}
	for _, chain := range []int{1, 2, 3, 4, 5, 6, 100, 127} {
		var b []byte
		for i := chain; i > 0; i-- {
			b = append(b, 130, byte(2*i-2))
		}
		look(b)
		for i := range b {
			look(b[:i])
		}
		look(append(b, 0))
	}
	for _, e := range []api.Errno{api.OK, api.ErrNest, api.ErrForm, api.ErrShort} {
		if count[e] < 20 {
			t.Errorf("%d came %d times: the test is too weak", e, count[e])
		}
	}
}

// P4.2: a piece of a greater slice is all that is read.
func TestGetPiece(t *testing.T) {
	room := []byte{1, 1, 5, 2, 0, 3, 0}
	isGet(t, "P4.2", room[:5], list(el(1, 5), el(2)), api.OK)
	isGet(t, "P4.2", room[:4], nil, api.ErrShort)
	isGet(t, "P4.2", room[:2], nil, api.ErrShort)
	isGet(t, "P4.2", room[3:5], list(el(2)), api.OK)
}

// P4.3: lists that are all different, each the same as itself alone.
func TestSame(t *testing.T) {
	lists := [][]api.Elem{
		nil, {{}}, {{}, {}}, {el(1)}, {el(2)}, {el(-1)}, {el(257)}, {el(math.MaxInt)}, {el(math.MinInt)},
		{el(1, 0)}, {el(1, 0, 0)}, {el(1, 1)}, {el(1, 5, 6)}, {el(1, 6, 5)}, {el(1, 5), el(2)}, {el(1), el(2, 5)}, {el(2), el(1)}, {el(1), el(2)}, {el(1), el(2), el(3)}, {el(1), el(1)},
		{with(1, el(1))}, {with(1, el(2))}, {with(200, el(1))}, {with(200, el(1, 0))}, {with(200, api.Elem{})}, {with(200, el(1), el(2))}, {with(200, el(1)), el(2)}, {with(200, with(200, el(1)))}, {with(200, with(200, el(2)))}, {with(200, with(200, el(1)), el(1))}, {with(200, with(200), el(1))}, {with(200), with(200, el(1))}, {with(200, el(1)), with(200)},
		{{Tag: 1, Bytes: []byte{5}, Elems: list(el(1))}}, {{Tag: 1, Bytes: []byte{5}, Elems: list(el(2))}}, {{Tag: 1, Bytes: []byte{6}, Elems: list(el(1))}},
		{wrapped(el(1), 100)}, {wrapped(el(2), 100)}, {wrapped(el(1), 101)},
	}
	for i, a := range lists {
		for j, b := range lists {
			if got := tlv.Same(a, deepCopy(b)); got != (i == j) {
				t.Errorf("P4.3: Same(%v, %v): %v", a, b, got)
			}
		}
	}
}

// P4.3: nil and empty are the same, on each level.
func TestSameNothing(t *testing.T) {
	empty := []api.Elem{}
	if !tlv.Same(nil, empty) || !tlv.Same(empty, nil) || !tlv.Same(nil, nil) || !tlv.Same(empty, empty) {
		t.Error("P4.3: nil and empty lists")
	}
	a, b := api.Elem{Tag: 1}, api.Elem{Tag: 1, Bytes: []byte{}, Elems: empty}
	if !tlv.Same(list(a), list(b)) || !tlv.Same(list(with(200, b)), list(with(200, a))) {
		t.Error("P4.3: nil and empty contents")
	}
}

// P4.3: pieces of one memory are held against each other by what is in them.
func TestSamePieces(t *testing.T) {
	es := list(el(1), el(2), el(1), el(2), el(3))
	if !tlv.Same(es, es) || !tlv.Same(es[:2], es[2:4]) || tlv.Same(es[:2], es[:3]) || tlv.Same(es[:3], es[2:]) {
		t.Error("P4.3")
	}
}

// P4.3: many lists against another way.
func TestSameMany(t *testing.T) {
	d := dice(3)
	same := 0
	for range 5000 {
		a := d.elems(4)
		b := deepCopy(a)
		if !tlv.Same(a, b) {
			t.Errorf("P4.3: a list and its copy: %v", a)
		}
		d.spoil(b)
		want := equal(a, b)
		if tlv.Same(a, b) != want || tlv.Same(b, a) != want {
			t.Errorf("P4.3: Same(%v, %v) should be %v", a, b, want)
		}
		if want {
			same++
		}
	}
	if same > 2500 {
		t.Errorf("%d were the same: the test is too weak", same)
	}
}

func isFound(t *testing.T, tag int, es []api.Elem, want api.Elem, ok bool) {
	t.Helper()
	if got, found := tlv.Find(tag, es...); !equal(list(got), list(want)) || found != ok {
		t.Errorf("P4.3: Find(%d) in %v: %v, %v; should be %v, %v", tag, es, got, found, want, ok)
	}
}

// P4.3: the first with the tag, of the list itself alone, whether it is valid or not.
func TestFind(t *testing.T) {
	es := list(el(7, 1), el(2, 9), with(225, el(3, 4), with(130, el(7, 8))), el(2, 5), with(7), el(0, 6), el(-5, 1), el(math.MaxInt))
	isFound(t, 7, es, el(7, 1), true)
	isFound(t, 2, es, el(2, 9), true)
	isFound(t, 225, es, es[2], true)
	isFound(t, 0, es, el(0, 6), true)
	isFound(t, -5, es, el(-5, 1), true)
	isFound(t, math.MaxInt, es, el(math.MaxInt), true)
	for _, tag := range []int{1, 3, 4, 130, 224, 226, 5, 256 + 7, -1, math.MinInt} {
		isFound(t, tag, es, api.Elem{}, false)
	}
	for _, tag := range []int{0, 1, -1} {
		isFound(t, tag, nil, api.Elem{}, false)
		isFound(t, tag, []api.Elem{}, api.Elem{}, false)
	}
	isFound(t, 0, list(api.Elem{}), api.Elem{}, true)
	both := api.Elem{Tag: 9, Bytes: []byte{1}, Elems: list(el(9, 2), el(8))}
	isFound(t, 9, list(el(1), both, el(9)), both, true)
}

// P4.4: numbers around each power of 256, against a row of divisions.
func TestNum(t *testing.T) {
	numbers := []int{0, 1, 2, 9, 100, 254, 255, 500, math.MaxInt, math.MaxInt - 1}
	for i := 1; i < 8; i++ {
		power := 1 << (8 * i)
		numbers = append(numbers, power-2, power-1, power, power+1, 2*power, 255<<(8*(i-1)), power>>1)
	}
	for _, n := range numbers {
		var want []byte
		for rest := n; rest > 0; rest /= 256 {
			want = append([]byte{byte(rest % 256)}, want...)
		}
		if got := tlv.Num(n); !bytes.Equal(got, want) {
			t.Errorf("P4.4: Num(%d): %x, should be %x", n, got, want)
		}
	}
	if b := tlv.Num(256); !bytes.Equal(b, []byte{1, 0}) {
		t.Errorf("P4.4: Num(256): %x", b)
	}
	if b := tlv.Num(math.MaxInt); !bytes.Equal(b, []byte{0x7F, 255, 255, 255, 255, 255, 255, 255}) {
		t.Errorf("P4.4: Num of the greatest: %x", b)
	}
	for _, n := range []int{-1, -2, -255, -256, -257, -1 << 40, math.MinInt, math.MinInt + 1} {
		if b := tlv.Num(n); len(b) != 0 {
			t.Errorf("P4.4: Num(%d): %x", n, b)
		}
	}
}

func isInt(t *testing.T, b []byte, want int, we api.Errno) {
	t.Helper()
	if n, e := tlv.Int(b); n != want || e != we {
		t.Errorf("P4.4: Int(%x): %d, %d; should be %d, %d", b, n, e, want, we)
	}
}

// P4.4: up to seven bytes, none leading that is 0; too many come ahead of a leading 0.
func TestInt(t *testing.T) {
	isInt(t, nil, 0, api.OK)
	isInt(t, []byte{}, 0, api.OK)
	isInt(t, []byte{0, 1}, 0, api.ErrForm)
	isInt(t, []byte{1, 0}, 256, api.OK)
	isInt(t, []byte{1, 2, 3}, 66051, api.OK)
	for x := range 256 {
		if x == 0 {
			isInt(t, []byte{0}, 0, api.ErrForm)
		} else {
			isInt(t, []byte{byte(x)}, x, api.OK)
		}
	}
	for n := 1; n <= 7; n++ {
		isInt(t, bytes.Repeat([]byte{255}, n), 1<<(8*n)-1, api.OK)
		isInt(t, append([]byte{1}, make([]byte, n-1)...), 1<<(8*(n-1)), api.OK)
		isInt(t, make([]byte, n), 0, api.ErrForm)
		isInt(t, append([]byte{0}, bytes.Repeat([]byte{255}, n-1)...), 0, api.ErrForm)
	}
	for _, n := range []int{8, 9, 16, 255, 1 << 16} {
		isInt(t, make([]byte, n), 0, api.ErrLong)
		isInt(t, bytes.Repeat([]byte{1}, n), 0, api.ErrLong)
	}
	isInt(t, []byte{0, 1, 1, 1, 1, 1, 1, 1}, 0, api.ErrLong)
	isInt(t, []byte{0x7F, 255, 255, 255, 255, 255, 255, 255}, 0, api.ErrLong)
}

// P4.4: Int takes back what Num laid, up to seven bytes.
func TestIntOfNum(t *testing.T) {
	d := dice(2)
	for i := range 20000 {
		n := i
		if i > 5000 {
			n = (d.below(1<<31)<<25 ^ d.below(1<<31)) >> d.below(56)
		}
		isInt(t, tlv.Num(n), n, api.OK)
	}
	isInt(t, tlv.Num(1<<56-1), 1<<56-1, api.OK)
	isInt(t, tlv.Num(1<<56), 0, api.ErrLong)
}

// P4.5: Get takes back what Put laid; what Get reads is laid so again (isRead asks that of each row it reads).
func TestGetOfPut(t *testing.T) {
	d := dice(8)
	count := 0
	for range 5000 {
		es := d.elems(4)
		b, e := tlv.Put(es...)
		if e != api.OK {
			continue
		}
		count++
		isGet(t, "P4.5", b, es, api.OK)
		if got, _ := tlv.Get(b); !tlv.Same(got, es) {
			t.Errorf("P4.5: %v isn't the same as %v", got, es)
		}
	}
	if count < 1000 {
		t.Errorf("%d were laid: the test is too weak", count)
	}
}

func scribble(b []byte) {
	for i := range b[:cap(b)] {
		b[:cap(b)][i] ^= 0xA5
	}
}

// scribbleElems changes all that a list's holder can reach, the spare capacity too.
func scribbleElems(es []api.Elem) {
	for i := range es[:cap(es)] {
		e := &es[:cap(es)][i]
		scribble(e.Bytes)
		scribbleElems(e.Elems)
		*e = el(-77, 7)
	}
}

func sample() []api.Elem {
	return list(el(1, 5, 6), el(2), el(9, 7), with(200), with(225, el(2, 1), el(3, 2), with(226, el(1, 9), with(227, el(4, 4)))))
}

// P4.5: what Put returns is its own.
func TestPutMemory(t *testing.T) {
	es := sample()
	first, _ := tlv.Put(es...)
	second, _ := tlv.Put(es...)
	want, _ := encoded(sample())
	scribble(first)
	if !bytes.Equal(second, want) || !equal(es, sample()) {
		t.Errorf("P4.5: Put shares memory: %x, %v", second, es)
	}
	scribbleElems(es)
	if !bytes.Equal(second, want) {
		t.Errorf("P4.5: Put keeps its arguments: %x", second)
	}
	one := list(el(1, 5, 6))
	b, _ := tlv.Put(one...)
	scribble(b)
	if !equal(one, list(el(1, 5, 6))) {
		t.Errorf("P4.5: Put shares an element's bytes: %v", one)
	}
}

// P4.5: what Get returns is its own, and so is each slice of it.
func TestGetMemory(t *testing.T) {
	b, _ := encoded(sample())
	was := slices.Clone(b)
	first, _ := tlv.Get(b)
	second, _ := tlv.Get(b)
	scribbleElems(first)
	if !equal(second, sample()) || !bytes.Equal(b, was) {
		t.Errorf("P4.5: Get shares memory: %v, %x", second, b)
	}
	scribble(b)
	if !equal(second, sample()) {
		t.Errorf("P4.5: Get keeps its argument: %v", second)
	}
	for i := range second {
		second[i].Bytes = append(second[i].Bytes, 99, 98, 97)
		second[i].Elems = append(second[i].Elems, el(77), el(78))
		for j, e := range sample() {
			if j > i && !equal(second[j:j+1], list(e)) {
				t.Errorf("P4.5: slices of one result share memory: %v", second)
			}
		}
	}
	inner, want := second[4].Elems, sample()[4].Elems
	scribble(inner[0].Bytes)
	scribbleElems(inner[2].Elems)
	if !equal(inner[1:2], want[1:2]) {
		t.Errorf("P4.5: nested slices of one result share memory: %v", inner)
	}
}

// P4.5: what Find returns is its own, on each level.
func TestFindMemory(t *testing.T) {
	for _, want := range append(sample(), api.Elem{Tag: 7, Bytes: []byte{1, 2}, Elems: list(el(1, 1), with(2, el(3, 3)))}) {
		es := list(el(50, 1), deepCopy(list(want))[0])
		first, _ := tlv.Find(want.Tag, es...)
		second, _ := tlv.Find(want.Tag, es...)
		scribble(first.Bytes)
		scribbleElems(first.Elems)
		if !equal(list(second), list(want)) || !equal(es, list(el(50, 1), want)) {
			t.Errorf("P4.5: Find shares memory: %v, %v", second, es)
		}
		scribbleElems(es)
		if !equal(list(second), list(want)) {
			t.Errorf("P4.5: Find keeps its arguments: %v", second)
		}
	}
}

// P4.5: what Num returns is its own; Int leaves what it is given.
func TestNumMemory(t *testing.T) {
	first, second := tlv.Num(70000), tlv.Num(70000)
	scribble(first)
	if !bytes.Equal(second, []byte{1, 0x11, 0x70}) {
		t.Errorf("P4.5: Num shares memory: %x", second)
	}
	room := []byte{1, 2, 3, 4}
	tlv.Int(room[:2])
	if !bytes.Equal(room, []byte{1, 2, 3, 4}) {
		t.Errorf("P4.5: Int changes its argument: %x", room)
	}
}

// P4.5: arguments, and what lies behind them in their memory, are not changed.
func TestArgumentsStay(t *testing.T) {
	for _, makeRoom := range []func() []api.Elem{
		sample,
		func() []api.Elem { return list(el(2), el(1)) },
		func() []api.Elem { return list(el(1, make([]byte, 256)...), el(2)) },
		func() []api.Elem { return list(el(1), wrapped(el(1), 5), el(9)) },
	} {
		room := makeRoom()
		for i := range len(room) + 1 {
			tlv.Put(room[:i]...)
			tlv.Find(2, room[:i]...)
			tlv.Same(room[:i], room)
		}
		if !equal(room, makeRoom()) {
			t.Errorf("P4.5: arguments were changed: %v", room)
		}
	}
	bytesRoom := []byte{1, 2, 5, 6, 9, 9, 9}
	e := api.Elem{Tag: 1, Bytes: bytesRoom[2:4]}
	tlv.Put(e, el(2))
	found, _ := tlv.Find(1, e)
	_ = append(found.Bytes, 0)
	got, _ := tlv.Get(bytesRoom[:4])
	_ = append(got[0].Bytes, 0)
	if !bytes.Equal(bytesRoom, []byte{1, 2, 5, 6, 9, 9, 9}) {
		t.Errorf("P4.5: bytes behind an argument were changed: %x", bytesRoom)
	}
}

// P1: deep nesting ends in each function, and Put ends on a list that contains itself.
func TestDeep(t *testing.T) {
	deep := list(wrapped(el(1, 5), 1<<16-1))
	other := list(wrapped(el(1, 6), 1<<16-1))
	if !tlv.Same(deep, deep) || tlv.Same(deep, other) {
		t.Error("P1: Same of deep lists")
	}
	found, ok := tlv.Find(200, deep...)
	if !ok || !tlv.Same(list(found), deep) {
		t.Error("P1: Find of a deep element")
	}
	isNest(t, deep...)
	loop := list(with(200), with(201))
	loop[1].Elems = loop
	isNest(t, loop...)
}

// P1: whatever the bytes are, every call ends and does not panic.
func TestNoPanic(t *testing.T) {
	d := dice(21)
	for range 20000 {
		b := d.bytes(d.below(40))
		isRead(t, b)
		if n, e := tlv.Int(b); e != api.OK && n != 0 || n < 0 {
			t.Errorf("P1: Int(%x): %d, %d", b, n, e)
		}
	}
	long := bytes.Repeat([]byte{128, 254}, 1<<15)
	isRead(t, long)
	isRead(t, bytes.Repeat([]byte{1, 255}, 1<<15))
	wide := make([]api.Elem, 1<<18)
	isPut(t, "P1", wide, nil, api.ErrArg)
	if _, ok := tlv.Find(1, wide...); ok || !tlv.Same(wide, slices.Clone(wide)) {
		t.Error("P1: many elements")
	}
}
