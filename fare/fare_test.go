package fare_test

import (
	"bytes"
	"encoding/binary"
	"math"
	"slices"
	"testing"

	"farebox/api"
	"farebox/fare"
)

// edges are numbers at which something might turn.
var edges = []int{math.MinInt, math.MinInt + 1, math.MinInt32, -65535, -256, -2, -1, 0, 1, 2, 3, 4, 5, 6, 254, 255, 256, 257, 65534, 65535, 65536, 65537, 999999, 1000000, 1000001, 1<<31 - 1, 1 << 31, 1<<31 + 1, 1<<32 - 1, 1 << 32, 1<<32 + 1, 1 << 40, math.MaxInt - 1, math.MaxInt}

// limits are a journey's least and greatest numbers: Op, Seq, Card, Owner, Id, Kind, From, To, Fare, Day.
var limits = [10][2]int{{1, 4}, {1, 2147483647}, {1, 65535}, {1, 4}, {1, 65535}, {1, 4}, {0, 255}, {0, 255}, {0, 2147483648}, {0, 65535}}

var ride = api.Journey{Op: 1, Seq: 5, Card: 7, Owner: 2, Id: 9, Kind: api.Purse, From: 1, To: 4, Fare: 250, Day: 3}

func numbers(j api.Journey) []int {
	return []int{j.Op, j.Seq, j.Card, j.Owner, j.Id, int(j.Kind), j.From, j.To, j.Fare, j.Day}
}

// with is the journey with another number at that place.
func with(j api.Journey, place, n int) api.Journey {
	*[]*int{&j.Op, &j.Seq, &j.Card, &j.Owner, &j.Id, (*int)(&j.Kind), &j.From, &j.To, &j.Fare, &j.Day}[place] = n
	return j
}

func valid(js ...api.Journey) bool {
	for _, j := range js {
		for i, n := range numbers(j) {
			if n < limits[i][0] || n > limits[i][1] {
				return false
			}
		}
	}
	return true
}

func validBatch(x api.Batch) bool {
	seqs := []int{0}
	for _, j := range x.Journeys {
		if j.Op != x.Op {
			return false
		}
		seqs = append(seqs, j.Seq)
	}
	ascending := slices.IsSorted(seqs) && len(slices.Compact(seqs)) == len(x.Journeys)+1
	return x.N > 0 && x.N < 1<<31 && len(x.Journeys) > 0 && len(x.Journeys) < 9 && ascending && valid(x.Journeys...)
}

// row are so many journeys of an operator, the number first first.
func row(op, first, count int) []api.Journey {
	var js []api.Journey
	for i := range count {
		js = append(js, with(with(ride, 0, op), 1, first+i))
	}
	return js
}

func batch(op, n, count int) api.Batch {
	return api.Batch{Op: op, N: n, Journeys: row(op, 5, count)}
}

// encoded is the journeys' encoding, by another way: number by number.
func encoded(js ...api.Journey) []byte {
	var b []byte
	for _, j := range js {
		b = append(b, byte(j.Op))
		b = binary.BigEndian.AppendUint32(b, uint32(j.Seq))
		b = binary.BigEndian.AppendUint16(b, uint16(j.Card))
		b = append(b, byte(j.Owner))
		b = binary.BigEndian.AppendUint16(b, uint16(j.Id))
		b = append(b, byte(j.Kind), byte(j.From), byte(j.To))
		b = binary.BigEndian.AppendUint32(b, uint32(j.Fare))
		b = binary.BigEndian.AppendUint16(b, uint16(j.Day))
	}
	return b
}

func encodedBatch(x api.Batch) []byte {
	b := binary.BigEndian.AppendUint32([]byte{byte(x.Op)}, uint32(x.N))
	return append(append(b, byte(len(x.Journeys))), encoded(x.Journeys...)...)
}

func read(b []byte) []api.Journey {
	var js []api.Journey
	for ; len(b) > 0; b = b[19:] {
		js = append(js, api.Journey{
			Op:    int(b[0]),
			Seq:   int(binary.BigEndian.Uint32(b[1:])),
			Card:  int(binary.BigEndian.Uint16(b[5:])),
			Owner: int(b[7]),
			Id:    int(binary.BigEndian.Uint16(b[8:])),
			Kind:  api.Kind(b[10]),
			From:  int(b[11]),
			To:    int(b[12]),
			Fare:  int(binary.BigEndian.Uint32(b[13:])),
			Day:   int(binary.BigEndian.Uint16(b[17:])),
		})
	}
	return js
}

// decoded is what Get should tell, by another way.
func decoded(b []byte) ([]api.Journey, api.Errno) {
	if len(b)%19 > 0 {
		return nil, api.ErrShort
	}
	js := read(b)
	if !valid(js...) {
		return nil, api.ErrForm
	}
	return js, api.OK
}

// decodedBatch is what GetBatch should tell, by another way.
func decodedBatch(b []byte) (api.Batch, api.Errno) {
	if len(b) < 6 || len(b) < 6+19*int(b[5]) {
		return api.Batch{}, api.ErrShort
	}
	if len(b) > 6+19*int(b[5]) {
		return api.Batch{}, api.ErrTrail
	}
	x := api.Batch{Op: int(b[0]), N: int(binary.BigEndian.Uint32(b[1:])), Journeys: read(b[6:])}
	if !validBatch(x) {
		return api.Batch{}, api.ErrForm
	}
	return x, api.OK
}

// dice are numbers made by a fixed rule.
type dice uint64

func (d *dice) below(n int) int {
	*d = *d*6364136223846793005 + 1442695040888963407
	return int(uint64(*d)>>32) % n
}

func (d *dice) journey() api.Journey {
	var j api.Journey
	for i, l := range limits {
		n := l[0] + d.below(l[1]-l[0]+1)
		if d.below(4) == 0 {
			n = l[d.below(2)]
		}
		j = with(j, i, n)
	}
	return j
}

func (d *dice) journeys(most int) []api.Journey {
	var js []api.Journey
	for range d.below(most + 1) {
		js = append(js, d.journey())
	}
	return js
}

func (d *dice) batch() api.Batch {
	x := api.Batch{Op: 1 + d.below(4), N: 1 + d.below(1<<31-1)}
	seq := 0
	for range 1 + d.below(8) {
		seq += 1 + d.below(1<<28-1)>>d.below(28)
		x.Journeys = append(x.Journeys, with(with(d.journey(), 0, x.Op), 1, seq))
	}
	return x
}

func sameBatch(x, y api.Batch) bool {
	return x.Op == y.Op && x.N == y.N && slices.Equal(x.Journeys, y.Journeys)
}

func isFare(t *testing.T, c api.Config, from, to, want int) {
	t.Helper()
	if got := fare.Fare(c, from, to); got != want {
		t.Errorf("P13.1: Fare(%d %d %d, %d, %d): %d; should be %d", c.Base, c.Step, c.Cap, from, to, got, want)
	}
}

func isFlat(t *testing.T, c api.Config, want int) {
	t.Helper()
	if got := fare.Flat(c); got != want {
		t.Errorf("P13.1: Flat(%d %d %d): %d; should be %d", c.Base, c.Step, c.Cap, got, want)
	}
}

// isTariff: is the tariff right, and if it isn't, does nothing cost anything?
func isTariff(t *testing.T, c api.Config, want bool) {
	t.Helper()
	if got := fare.Right(c); got != want {
		t.Errorf("P13.1: Right(%d %d %d): %v", c.Base, c.Step, c.Cap, got)
	}
	if want {
		isFlat(t, c, min(c.Base, c.Cap))
		isFare(t, c, 7, 7, min(c.Base, c.Cap))
		isFare(t, c, 8, 7, min(c.Base+c.Step, c.Cap))
		return
	}
	isFlat(t, c, 0)
	for _, to := range []int{0, 1, 8, 255} {
		isFare(t, c, 0, to, 0)
		isFare(t, c, to, 8, 0)
	}
}

func isGood(t *testing.T, want bool, js ...api.Journey) {
	t.Helper()
	if got := fare.Good(js...); got != want {
		t.Errorf("P13.2: Good(%v): %v", js, got)
	}
}

func isPut(t *testing.T, js []api.Journey, want []byte, wantE api.Errno) {
	t.Helper()
	if got, e := fare.Put(js...); !bytes.Equal(got, want) || e != wantE {
		t.Errorf("P13.2: Put(%v): %x, %d; should be %x, %d", js, got, e, want, wantE)
	}
}

func isGot(t *testing.T, b []byte, want []api.Journey, wantE api.Errno) {
	t.Helper()
	if got, e := fare.Get(b); !slices.Equal(got, want) || e != wantE {
		t.Errorf("P13.2: Get(%x): %v, %d; should be %v, %d", b, got, e, want, wantE)
	}
}

func isBatchPut(t *testing.T, x api.Batch, want []byte, wantE api.Errno) {
	t.Helper()
	if got, e := fare.PutBatch(x); !bytes.Equal(got, want) || e != wantE {
		t.Errorf("P13.3: PutBatch(%v): %x, %d; should be %x, %d", x, got, e, want, wantE)
	}
}

// isBatchPutOr: a valid batch's encoding, or ErrArg.
func isBatchPutOr(t *testing.T, x api.Batch) {
	t.Helper()
	if validBatch(x) {
		isBatchPut(t, x, encodedBatch(x), api.OK)
		return
	}
	isBatchPut(t, x, nil, api.ErrArg)
}

func isBatchGot(t *testing.T, b []byte, want api.Batch, wantE api.Errno) {
	t.Helper()
	if got, e := fare.GetBatch(b); !sameBatch(got, want) || e != wantE {
		t.Errorf("P13.3: GetBatch(%x): %v, %d; should be %v, %d", b, got, e, want, wantE)
	}
}

func isBatchRefused(t *testing.T, b []byte, want api.Errno) {
	t.Helper()
	isBatchGot(t, b, api.Batch{}, want)
}

func isTotal(t *testing.T, js []api.Journey, want int, wantE api.Errno) {
	t.Helper()
	if got, e := fare.Total(js...); got != want || e != wantE {
		t.Errorf("P13.4: Total(%v): %d, %d; should be %d, %d", js, got, e, want, wantE)
	}
}

func TestExamples(t *testing.T) {
	c := api.Config{Base: 100, Step: 50, Cap: 300}
	isFare(t, c, 1, 4, 250)
	isFare(t, c, 9, 1, 300)
	isFlat(t, c, 100)
	isFare(t, c, 1, 256, 0)
	c.Cap = 80
	isFlat(t, c, 80)
}

// P13.1: each number of a tariff at each edge.
func TestRight(t *testing.T) {
	for _, n := range edges {
		want := n >= 0 && n <= 1000000
		isTariff(t, api.Config{Base: n, Step: 50, Cap: 300}, want)
		isTariff(t, api.Config{Base: 100, Step: n, Cap: 300}, want)
		isTariff(t, api.Config{Base: 100, Step: 50, Cap: n}, want)
		isTariff(t, api.Config{Base: n, Step: n, Cap: n}, want)
		for _, m := range edges {
			right := want && m >= 0 && m <= 1000000
			isTariff(t, api.Config{Base: n, Step: m, Cap: 1000000}, right)
			isTariff(t, api.Config{Base: m, Cap: n}, right)
			isTariff(t, api.Config{Step: n, Cap: m}, right)
		}
	}
	isTariff(t, api.Config{}, true)
}

// P13.1: what else a shape has doesn't count.
func TestRightOfTariffOnly(t *testing.T) {
	for _, n := range edges {
		isTariff(t, api.Config{Ops: n, Cards: n, Disk: n, Accepts: [][]int{{n}, nil}, Base: 1, Step: 2, Cap: 3}, true)
		isTariff(t, api.Config{Ops: 2, Cards: 1, Disk: 300, Accepts: [][]int{{}, {1}}, Base: 1, Step: -2, Cap: 3}, false)
	}
}

// P13.1: each pair of zones, by another way: a zone after the other.
func TestFareOfEachPair(t *testing.T) {
	for _, c := range []api.Config{{Base: 100, Step: 50, Cap: 300}, {}, {Cap: 1000000}, {Base: 5, Cap: 7}, {Base: 9, Step: 1, Cap: 7}, {Step: 1, Cap: 255}, {Step: 1, Cap: 254}, {Step: 3, Cap: 100}, {Base: 3, Step: 4000, Cap: 1000000}, {Base: 1000000, Step: 1000000, Cap: 1000000}, {Base: 1000000, Step: 1000000}} {
		for from := range 256 {
			want := c.Base
			for far := 0; from+far < 256; far++ {
				isFare(t, c, from, from+far, min(want, c.Cap))
				isFare(t, c, from+far, from, min(want, c.Cap))
				want += c.Step
			}
		}
	}
}

// P13.1: zones of which there are none, on either side, or on both.
func TestFareOfNoZone(t *testing.T) {
	c := api.Config{Base: 100, Step: 50, Cap: 300}
	for _, n := range edges {
		for _, m := range append([]int{0, 128, 255}, edges...) {
			want := 0
			if n >= 0 && n <= 255 && m >= 0 && m <= 255 {
				want = min(300, 100+50*max(n-m, m-n))
			}
			isFare(t, c, n, m, want)
			isFare(t, c, m, n, want)
		}
	}
}

// P13.5: the same in both directions, never above Cap, and no less for zones farther apart.
func TestFareFarther(t *testing.T) {
	d := dice(1)
	for range 300 {
		c := api.Config{Base: d.below(1000001), Step: d.below(1000001) >> d.below(20), Cap: d.below(1000001)}
		from, last := d.below(256), 0
		for to := from; to < 256; to++ {
			n := fare.Fare(c, from, to)
			if n < last || n > c.Cap || n != fare.Fare(c, to, from) {
				t.Errorf("P13.5: Fare(%d %d %d, %d, %d): %d, %d back, %d for a zone less", c.Base, c.Step, c.Cap, from, to, n, fare.Fare(c, to, from), last)
			}
			last = n
		}
	}
}

// P13.2: no journeys are all good, and no bytes.
func TestNoJourneys(t *testing.T) {
	isGood(t, true)
	isGood(t, true, []api.Journey{}...)
	isGood(t, false, api.Journey{})
	isPut(t, nil, nil, api.OK)
	isPut(t, []api.Journey{}, nil, api.OK)
	isPut(t, []api.Journey{{}}, nil, api.ErrArg)
	isGot(t, nil, nil, api.OK)
	isGot(t, []byte{}, nil, api.OK)
	isTotal(t, nil, 0, api.OK)
	isTotal(t, []api.Journey{}, 0, api.OK)
	isTotal(t, []api.Journey{{}}, 0, api.ErrArg)
}

// P13.2, P13.4: each number of a journey at each edge, alone and among others.
func TestEachNumber(t *testing.T) {
	for place := range limits {
		for _, n := range edges {
			x := with(ride, place, n)
			want := valid(x)
			for _, js := range [][]api.Journey{{x}, {x, ride}, {ride, x}, {ride, ride, x, ride}, {x, x}} {
				isGood(t, want, js...)
				if !want {
					isPut(t, js, nil, api.ErrArg)
					isTotal(t, js, 0, api.ErrArg)
					continue
				}
				isPut(t, js, encoded(js...), api.OK)
				isGot(t, encoded(js...), js, api.OK)
				isTotal(t, js, x.Fare*count(js, x)+250*(len(js)-count(js, x)), api.OK)
			}
		}
	}
}

func count(js []api.Journey, x api.Journey) int {
	n := 0
	for _, j := range js {
		if j == x {
			n++
		}
	}
	return n
}

// P13.2: the bytes, written out.
func TestPutBytes(t *testing.T) {
	j := api.Journey{Op: 3, Seq: 0x01020304, Card: 0x0506, Owner: 4, Id: 0x0708, Kind: api.Carnet, From: 9, To: 255, Fare: 1 << 31, Day: 0x0A0B}
	isPut(t, []api.Journey{j, ride}, []byte{
		3, 1, 2, 3, 4, 5, 6, 4, 7, 8, 3, 9, 255, 0x80, 0, 0, 0, 10, 11,
		1, 0, 0, 0, 5, 0, 7, 2, 0, 9, 1, 1, 4, 0, 0, 0, 250, 0, 3,
	}, api.OK)
	isPut(t, []api.Journey{{Op: 1, Seq: 1, Card: 1, Owner: 1, Id: 1, Kind: 1}}, []byte{1, 0, 0, 0, 1, 0, 1, 1, 0, 1, 1, 0, 0, 0, 0, 0, 0, 0, 0}, api.OK)
	isPut(t, []api.Journey{{Op: 4, Seq: 1<<31 - 1, Card: 65535, Owner: 4, Id: 65535, Kind: 4, From: 255, To: 255, Fare: 1 << 31, Day: 65535}}, []byte{4, 127, 255, 255, 255, 255, 255, 4, 255, 255, 4, 255, 255, 128, 0, 0, 0, 255, 255}, api.OK)
}

// P13.2: journeys need neither one operator nor an order.
func TestAnyJourneys(t *testing.T) {
	js := append(append(row(2, 9, 3), row(1, 3, 20)...), row(2, 9, 3)...)
	isGood(t, true, js...)
	isPut(t, js, encoded(js...), api.OK)
	isGot(t, encoded(js...), js, api.OK)
	isTotal(t, js, 26*250, api.OK)
}

// P13.2: each length, of right bytes and of wrong ones.
func TestGetLengths(t *testing.T) {
	whole := encoded(row(1, 1, 5)...)
	for n := range len(whole) + 1 {
		if n%19 == 0 {
			isGot(t, whole[:n], row(1, 1, n/19), api.OK)
			continue
		}
		isGot(t, whole[:n], nil, api.ErrShort)
	}
	for n := 1; n < 100; n++ {
		want := api.ErrShort
		if n%19 == 0 {
			want = api.ErrForm
		}
		isGot(t, make([]byte, n), nil, want)
		isGot(t, bytes.Repeat([]byte{255}, n), nil, want)
	}
}

// P13.2: each byte at each of its values, in the first journey and in the last one.
func TestGetEachByte(t *testing.T) {
	for at := range 57 {
		for x := range 256 {
			b := encoded(row(1, 1, 3)...)
			b[at] = byte(x)
			want, wantE := decoded(b)
			isGot(t, b, want, wantE)
		}
	}
}

// P13.2, P13.3: numbers of 32 bits at the greatest that can be, and above it.
func TestGetGreatNumbers(t *testing.T) {
	for _, n := range []uint32{0, 1, 1<<31 - 1, 1 << 31, 1<<31 + 1, math.MaxUint32 - 1, math.MaxUint32} {
		for _, at := range []int{1, 13, 20, 32} {
			b := encoded(row(1, 1, 2)...)
			binary.BigEndian.PutUint32(b[at:], n)
			want, wantE := decoded(b)
			isGot(t, b, want, wantE)
		}
		for _, at := range []int{1, 7, 19, 26, 38} {
			b := encodedBatch(batch(1, 3, 2))
			binary.BigEndian.PutUint32(b[at:], n)
			want, wantE := decodedBatch(b)
			isBatchGot(t, b, want, wantE)
		}
	}
}

func TestPutBatch(t *testing.T) {
	next := with(ride, 1, 6)
	isBatchPut(t, api.Batch{Op: 1, N: 3, Journeys: []api.Journey{ride, next}}, []byte{
		1, 0, 0, 0, 3, 2,
		1, 0, 0, 0, 5, 0, 7, 2, 0, 9, 1, 1, 4, 0, 0, 0, 250, 0, 3,
		1, 0, 0, 0, 6, 0, 7, 2, 0, 9, 1, 1, 4, 0, 0, 0, 250, 0, 3,
	}, api.OK)
	isBatchPut(t, api.Batch{}, nil, api.ErrArg)
	for _, n := range edges {
		isBatchPutOr(t, batch(n, 1, 1))
		isBatchPutOr(t, batch(n, 1, 0))
		isBatchPutOr(t, batch(1, n, 2))
		isBatchPutOr(t, batch(n, n, 8))
	}
	for n := range 300 {
		isBatchPutOr(t, batch(2, 1<<31-1, n))
	}
	isBatchPut(t, batch(4, 1<<31-1, 8), encodedBatch(batch(4, 1<<31-1, 8)), api.OK)
	isBatchPut(t, batch(4, 1<<31, 8), nil, api.ErrArg)
}

// P13.3: each number of each journey at each edge.
func TestPutBatchNumbers(t *testing.T) {
	for place := range limits {
		for _, n := range edges {
			for at := range 8 {
				x := batch(1, 3, 8)
				x.Journeys[at] = with(x.Journeys[at], place, n)
				isBatchPutOr(t, x)
			}
			isBatchPutOr(t, api.Batch{Op: 1, N: 1, Journeys: []api.Journey{with(ride, place, n)}})
		}
	}
}

// P13.3: one journey of another operator, or one that is not behind the one ahead of it.
func TestBatchOrder(t *testing.T) {
	for op := 1; op <= 4; op++ {
		for _, seqs := range [][]int{{1}, {1, 2}, {1, 3, 4}, {7, 1<<31 - 1}, {1, 1}, {2, 1}, {1, 2, 2}, {1, 3, 2}, {2, 1, 3}, {1, 2, 3, 4, 5, 6, 7, 7}, {1, 2, 3, 4, 5, 6, 8, 7}, {8, 1, 2, 3, 4, 5, 6, 7}, {1<<31 - 1, 1}} {
			x := api.Batch{Op: op, N: 1}
			for _, seq := range seqs {
				x.Journeys = append(x.Journeys, with(with(ride, 0, op), 1, seq))
			}
			want := api.ErrForm
			if slices.IsSorted(seqs) && len(slices.Compact(slices.Clone(seqs))) == len(seqs) {
				want = api.OK
			}
			isOrder(t, x, want)
			for at := range seqs {
				y := api.Batch{Op: op, N: 1, Journeys: slices.Clone(x.Journeys)}
				y.Journeys[at].Op = 1 + op%4
				isOrder(t, y, api.ErrForm)
			}
		}
	}
}

func isOrder(t *testing.T, x api.Batch, want api.Errno) {
	t.Helper()
	if want == api.OK {
		isBatchPut(t, x, encodedBatch(x), api.OK)
		isBatchGot(t, encodedBatch(x), x, api.OK)
		return
	}
	isBatchPut(t, x, nil, api.ErrArg)
	isBatchRefused(t, encodedBatch(x), want)
}

// P13.3: each length of an encoding, cut off or with more behind it.
func TestGetBatchLengths(t *testing.T) {
	for n := 1; n <= 8; n++ {
		b := encodedBatch(batch(3, 9, n))
		isBatchGot(t, b, batch(3, 9, n), api.OK)
		for end := range len(b) {
			isBatchRefused(t, b[:end], api.ErrShort)
		}
		for _, more := range []int{1, 2, 18, 19, 20, 38, 5000} {
			isBatchRefused(t, append(slices.Clone(b), make([]byte, more)...), api.ErrTrail)
		}
	}
}

// P13.3: what is missing or too much comes ahead of what can't be, and no number of journeys is too great to be asked for.
func TestGetBatchOrderOfErrors(t *testing.T) {
	isBatchRefused(t, nil, api.ErrShort)
	for n := range 256 {
		for _, head := range [][]byte{{1, 0, 0, 0, 1, byte(n)}, {0, 0, 0, 0, 0, byte(n)}, {255, 255, 255, 255, 255, byte(n)}} {
			whole := append(slices.Clone(head), encoded(row(1, 1, n)...)...)
			want, wantE := decodedBatch(whole)
			isBatchGot(t, whole, want, wantE)
			if (n < 1 || n > 8 || head[0] != 1) && wantE != api.ErrForm {
				t.Errorf("P13.3: %d journeys: %d", n, wantE)
			}
			isBatchRefused(t, head[:5], api.ErrShort)
			isBatchRefused(t, append(slices.Clone(whole), 1), api.ErrTrail)
			if n > 0 {
				isBatchRefused(t, head, api.ErrShort)
				isBatchRefused(t, whole[:len(whole)-1], api.ErrShort)
				isBatchRefused(t, append(slices.Clone(head), make([]byte, 19*n-1)...), api.ErrShort)
				isBatchRefused(t, append(slices.Clone(head), make([]byte, 19*n)...), api.ErrForm)
				isBatchRefused(t, append(slices.Clone(head), make([]byte, 19*n+1)...), api.ErrTrail)
			}
		}
	}
}

// P13.3: each byte at each of its values.
func TestGetBatchEachByte(t *testing.T) {
	for at := range 44 {
		for x := range 256 {
			b := encodedBatch(batch(1, 3, 2))
			b[at] = byte(x)
			want, wantE := decodedBatch(b)
			isBatchGot(t, b, want, wantE)
		}
	}
}

// P13.4: more than 32 bits, and one wrong journey, wherever it stands.
func TestTotal(t *testing.T) {
	most := with(ride, 8, 1<<31)
	for n := range 100 {
		isTotal(t, slices.Repeat([]api.Journey{most}, n), n<<31, api.OK)
	}
	js := []api.Journey{with(ride, 8, 1), with(ride, 8, 20), with(ride, 8, 0), with(ride, 8, 300), most}
	isTotal(t, js, 321+1<<31, api.OK)
	for at := range len(js) + 1 {
		for _, wrong := range []api.Journey{{}, with(ride, 8, -1), with(ride, 8, 1<<31+1), with(ride, 9, 65536), with(ride, 8, math.MaxInt)} {
			isTotal(t, slices.Insert(slices.Clone(js), at, wrong), 0, api.ErrArg)
		}
	}
}

// P13.5: what is put comes back, and what can be got is put the same.
func TestReverse(t *testing.T) {
	for seed := range 400 {
		d := dice(seed)
		js, x := d.journeys(20), d.batch()
		isPut(t, js, encoded(js...), api.OK)
		isGot(t, encoded(js...), js, api.OK)
		isBatchPut(t, x, encodedBatch(x), api.OK)
		isBatchGot(t, encodedBatch(x), x, api.OK)
		total := 0
		for _, j := range js {
			total += j.Fare
		}
		isTotal(t, js, total, api.OK)
		for range 20 {
			isReversed(t, flipped(&d, encoded(js...)))
			isBatchReversed(t, flipped(&d, encodedBatch(x)))
		}
	}
}

func flipped(d *dice, b []byte) []byte {
	if len(b) > 0 {
		b[d.below(len(b))] ^= 1 << d.below(8)
	}
	return b
}

func isReversed(t *testing.T, b []byte) {
	t.Helper()
	want, wantE := decoded(b)
	isGot(t, b, want, wantE)
	if wantE == api.OK {
		isPut(t, want, b, api.OK)
	}
}

func isBatchReversed(t *testing.T, b []byte) {
	t.Helper()
	want, wantE := decodedBatch(b)
	isBatchGot(t, b, want, wantE)
	if wantE == api.OK {
		isBatchPut(t, want, b, api.OK)
	}
}

// P13.5: any two different journeys have different encodings.
func TestEncodingsDiffer(t *testing.T) {
	seen := map[string]api.Journey{}
	for place, l := range limits {
		for _, n := range []int{l[0], l[0] + 1, l[0] + 2, l[1] - 1, l[1]} {
			j := with(ride, place, n)
			b, e := fare.Put(j)
			if e != api.OK || len(b) != 19 {
				t.Errorf("P13.2: Put(%v): %x, %d", j, b, e)
			}
			if other, ok := seen[string(b)]; ok && other != j {
				t.Errorf("P13.5: %v and %v are both %x", j, other, b)
			}
			seen[string(b)] = j
		}
	}
}

// scribble changes all that a holder of a list can reach, the spare capacity too.
func scribble[T any](s []T, x T) {
	s = s[:cap(s)]
	for i := range s {
		s[i] = x
	}
}

// P13.5: journeys that are given are not changed, in the spare capacity either.
func TestArguments(t *testing.T) {
	whole := row(1, 1, 12)
	before := slices.Clone(whole)
	for n := range 9 {
		js := whole[:n]
		fare.Good(js...)
		fare.Put(js...)
		fare.Total(js...)
		fare.PutBatch(api.Batch{Op: 1, N: 1, Journeys: js})
		fare.PutBatch(api.Batch{Op: 2, N: 1, Journeys: js})
		if !slices.Equal(whole, before) {
			t.Errorf("P13.5: changed to %v", whole)
		}
	}
	b := append(encodedBatch(batch(1, 1, 2)), encodedBatch(batch(1, 2, 2))...)
	bytesBefore := slices.Clone(b)
	for n := range len(b) {
		fare.Get(b[:n])
		fare.GetBatch(b[:n])
	}
	if !bytes.Equal(b, bytesBefore) {
		t.Errorf("P13.5: changed to %x", b)
	}
}

// P13.5: who changes an argument or a result afterwards, changes nothing else.
func TestMemory(t *testing.T) {
	js, x := row(1, 1, 5), batch(1, 3, 5)
	b, _ := fare.Put(js...)
	c, _ := fare.PutBatch(x)
	scribble(js, api.Journey{})
	scribble(x.Journeys, api.Journey{})
	wantB, wantC := encoded(row(1, 1, 5)...), encodedBatch(batch(1, 3, 5))
	if !bytes.Equal(b, wantB) || !bytes.Equal(c, wantC) {
		t.Errorf("P13.5: Put or PutBatch kept its argument: %x, %x", b, c)
	}
	got, _ := fare.Get(b)
	gotBatch, _ := fare.GetBatch(c)
	scribble(b, 255)
	scribble(c, 255)
	if !slices.Equal(got, row(1, 1, 5)) || !sameBatch(gotBatch, batch(1, 3, 5)) {
		t.Errorf("P13.5: Get or GetBatch kept its argument: %v, %v", got, gotBatch)
	}
	scribble(got, ride)
	scribble(gotBatch.Journeys, ride)
	for range 2 {
		isPut(t, row(1, 1, 5), wantB, api.OK)
		isBatchPut(t, batch(1, 3, 5), wantC, api.OK)
		isGot(t, wantB, row(1, 1, 5), api.OK)
		isBatchGot(t, wantC, batch(1, 3, 5), api.OK)
	}
}

// Long lists are not told in the messages.
func TestNoPanic(t *testing.T) {
	many := slices.Repeat([]api.Journey{with(ride, 8, 1<<31)}, 1<<15)
	b, e := fare.Put(many...)
	if e != api.OK || !bytes.Equal(b, encoded(many...)) {
		t.Errorf("P1: very many journeys: %d bytes, %d", len(b), e)
	}
	if js, e := fare.Get(b); e != api.OK || !slices.Equal(js, many) {
		t.Errorf("P1: very many journeys: %d, %d", len(js), e)
	}
	if n, e := fare.Total(many...); n != 1<<46 || e != api.OK {
		t.Errorf("P1: very many journeys: %d, %d", n, e)
	}
	if n, e := fare.Total(append(many, api.Journey{})...); n != 0 || e != api.ErrArg {
		t.Errorf("P1: very many journeys and a wrong one: %d, %d", n, e)
	}
	if c, e := fare.PutBatch(api.Batch{Op: 1, N: 1, Journeys: many}); len(c) > 0 || e != api.ErrArg {
		t.Errorf("P1: a batch of very many journeys: %d", e)
	}
	isBatchRefused(t, b[:len(b)-1], api.ErrTrail)
	if js, e := fare.Get(make([]byte, 19<<15)); len(js) > 0 || e != api.ErrForm {
		t.Errorf("P1: very many bytes: %d", e)
	}
	if js, e := fare.Get(make([]byte, 1+19<<15)); len(js) > 0 || e != api.ErrShort {
		t.Errorf("P1: very many bytes: %d", e)
	}
}

// P1: numbers at the edges everywhere at once.
func TestEdgesTogether(t *testing.T) {
	for _, x := range edges {
		for _, y := range edges {
			j := api.Journey{Op: x, Seq: y, Card: x, Owner: y, Id: x, Kind: api.Kind(y), From: x, To: y, Fare: x, Day: y}
			isGood(t, valid(j), j)
			isBatchPutOr(t, api.Batch{Op: x, N: y, Journeys: []api.Journey{j}})
			fare.Fare(api.Config{Base: x, Step: y, Cap: y}, x, y)
		}
	}
}
