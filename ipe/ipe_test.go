package ipe_test

import (
	"bytes"
	"math"
	"slices"
	"strconv"
	"testing"

	"farebox/api"
	"farebox/ipe"
	"farebox/tlv"
)

var (
	purse  = api.Product{Kind: api.Purse, Owner: 2, Id: 9, Card: 7, Ver: 1, Value: 500}
	pass   = api.Product{Kind: api.Pass, Owner: 1, Id: 1, Card: 1, Ver: 1, Last: 5}
	carnet = api.Product{Kind: api.Carnet, Owner: 3, Id: 2, Card: 300, Ver: 7, Rides: 10, Act: 3}
	ticket = api.Product{Kind: api.Ticket, Owner: 4, Id: 65535, Card: 65535, Ver: 255, Rides: 1}
	full   = api.Product{Kind: api.Ticket, Owner: 4, Id: 65535, Card: 65535, Ver: 255, Value: 1 << 31, Last: 65535, Rides: 255, Open: true, Zone: 255, Day: 65535, Txn: 65535, Act: 65535, Blocked: true}
)

func some() []api.Product {
	open := purse
	open.Open, open.Zone, open.Day, open.Txn = true, 4, 1, 1
	blocked := carnet
	blocked.Blocked = true
	return []api.Product{purse, pass, carnet, ticket, full, open, blocked}
}

// field is a product's number: its name, its limits, and how it is set.
type field struct {
	name        string
	least, most int
	set         func(p *api.Product, n int)
	get         func(p api.Product) int
}

func one(b bool) int {
	if b {
		return 1
	}
	return 0
}

// fields are a product's numbers in the order of their tags, from 1 on.
func fields() []field {
	return []field{
		{"Kind", 1, 4, func(p *api.Product, n int) { p.Kind = api.Kind(n) }, func(p api.Product) int { return int(p.Kind) }},
		{"Owner", 1, 4, func(p *api.Product, n int) { p.Owner = n }, func(p api.Product) int { return p.Owner }},
		{"Id", 1, 65535, func(p *api.Product, n int) { p.Id = n }, func(p api.Product) int { return p.Id }},
		{"Card", 1, 65535, func(p *api.Product, n int) { p.Card = n }, func(p api.Product) int { return p.Card }},
		{"Ver", 1, 255, func(p *api.Product, n int) { p.Ver = n }, func(p api.Product) int { return p.Ver }},
		{"Value", 0, 1 << 31, func(p *api.Product, n int) { p.Value = n }, func(p api.Product) int { return p.Value }},
		{"Last", 0, 65535, func(p *api.Product, n int) { p.Last = n }, func(p api.Product) int { return p.Last }},
		{"Rides", 0, 255, func(p *api.Product, n int) { p.Rides = n }, func(p api.Product) int { return p.Rides }},
		{"Open", 0, 1, func(p *api.Product, n int) { p.Open = n != 0 }, func(p api.Product) int { return one(p.Open) }},
		{"Zone", 0, 255, func(p *api.Product, n int) { p.Zone = n }, func(p api.Product) int { return p.Zone }},
		{"Day", 0, 65535, func(p *api.Product, n int) { p.Day = n }, func(p api.Product) int { return p.Day }},
		{"Txn", 0, 65535, func(p *api.Product, n int) { p.Txn = n }, func(p api.Product) int { return p.Txn }},
		{"Act", 0, 65535, func(p *api.Product, n int) { p.Act = n }, func(p api.Product) int { return p.Act }},
		{"Blocked", 0, 1, func(p *api.Product, n int) { p.Blocked = n != 0 }, func(p api.Product) int { return one(p.Blocked) }},
	}
}

func (f field) truth() bool {
	return f.name == "Open" || f.name == "Blocked"
}

// right is whether a product is valid, by another way: field by field.
func right(p api.Product) bool {
	for _, f := range fields() {
		if n := f.get(p); n < f.least || n > f.most {
			return false
		}
	}
	return true
}

// encoded is a valid product's encoding, by another way: number by number.
func encoded(p api.Product) []byte {
	var inner []byte
	for i, f := range fields() {
		if n := f.get(p); n != 0 {
			inner = append(append(inner, byte(i+1), byte(size(n))), digits(n)...)
		}
	}
	return append([]byte{224, byte(len(inner))}, inner...)
}

// size is how many digits a number has to the base 256.
func size(n int) int {
	return (len(strconv.FormatInt(int64(n), 16)) + 1) / 2
}

func digits(n int) []byte {
	b := []byte{byte(n >> 48), byte(n >> 40), byte(n >> 32), byte(n >> 24), byte(n >> 16), byte(n >> 8), byte(n)}
	return b[7-size(n):]
}

// parsed is what Parse should tell, by another way: b is walked once from its beginning.
func parsed(b []byte) (api.Product, api.Errno) {
	if _, e := tlv.Get(b); e != api.OK {
		return api.Product{}, e
	}
	if len(b) < 2 || b[0] != 224 || int(b[1]) != len(b)-2 {
		return api.Product{}, api.ErrForm
	}
	var p api.Product
	for rest := b[2:]; len(rest) > 0; rest = rest[2+int(rest[1]):] {
		tag, content := int(rest[0]), rest[2:2+int(rest[1])]
		if tag > 14 || len(content) == 0 || len(content) > 7 || content[0] == 0 {
			return api.Product{}, api.ErrForm
		}
		n := 0
		for _, x := range content {
			n = n<<8 + int(x)
		}
		f := fields()[tag-1]
		if n > f.most {
			return api.Product{}, api.ErrForm
		}
		f.set(&p, n)
	}
	if !right(p) {
		return api.Product{}, api.ErrForm
	}
	return p, api.OK
}

// opened is what Open should tell, by another way.
func opened(body []byte) (api.Product, api.Token, api.Errno) {
	switch {
	case len(body) < 64:
		return api.Product{}, 0, api.ErrShort
	case len(body) > 64:
		return api.Product{}, 0, api.ErrLong
	case body[0] >= 60:
		return api.Product{}, 0, api.ErrForm
	}
	n := int(body[0])
	p, e := parsed(body[1 : n+1])
	if e != api.OK {
		return api.Product{}, 0, e
	}
	if len(bytes.Trim(body[n+5:], "\x00")) > 0 {
		return api.Product{}, 0, api.ErrTrail
	}
	t := int(body[n+1])<<24 + int(body[n+2])<<16 + int(body[n+3])<<8 + int(body[n+4])
	if t == 0 || t >= 1<<31 {
		return api.Product{}, 0, api.ErrForm
	}
	return p, api.Token(t), api.OK
}

// dice are numbers made by a fixed rule.
type dice uint64

func (d *dice) below(n int) int {
	*d = *d*6364136223846793005 + 1442695040888963407
	return int(uint64(*d)>>33) % n
}

// product is one that is valid, many of its numbers at a limit.
func (d *dice) product() api.Product {
	var p api.Product
	for _, f := range fields() {
		switch d.below(4) {
		case 0:
			f.set(&p, f.least)
		case 1:
			f.set(&p, f.most)
		default:
			f.set(&p, f.least+d.below(f.most-f.least+1)>>d.below(32))
		}
	}
	return p
}

// scribble changes all that a result's holder can reach, the spare capacity too.
func scribble(b []byte) {
	b = b[:cap(b)]
	for i := range b {
		b[i] ^= 0xEE
	}
}

func isForm(t *testing.T, p api.Product, want []byte, wantE api.Errno) {
	t.Helper()
	if got, e := ipe.Form(p); !bytes.Equal(got, want) || e != wantE {
		t.Errorf("P10.1: Form(%v): %x, %d; should be %x, %d", p, got, e, want, wantE)
	}
}

func isParsed(t *testing.T, b []byte, want api.Product, wantE api.Errno) {
	t.Helper()
	if got, e := ipe.Parse(b); got != want || e != wantE {
		t.Errorf("P10.1: Parse(%x): %v, %d; should be %v, %d", b, got, e, want, wantE)
	}
}

func isWrong(t *testing.T, e api.Errno, b ...byte) {
	t.Helper()
	isParsed(t, b, api.Product{}, e)
}

func isBody(t *testing.T, p api.Product, token api.Token, want []byte, wantE api.Errno) {
	t.Helper()
	if got, e := ipe.Body(p, token); !bytes.Equal(got, want) || e != wantE {
		t.Errorf("P10.2: Body(%v, %d): %x, %d; should be %x, %d", p, token, got, e, want, wantE)
	}
}

func isOpened(t *testing.T, body []byte, want api.Product, wantToken api.Token, wantE api.Errno) {
	t.Helper()
	if got, token, e := ipe.Open(body); got != want || token != wantToken || e != wantE {
		t.Errorf("P10.2: Open(%x): %v, %d, %d; should be %v, %d, %d", body, got, token, e, want, wantToken, wantE)
	}
}

// laidBody is a body of any encoding, token and rest.
func laidBody(form []byte, token int) []byte {
	b := append([]byte{byte(len(form))}, form...)
	b = append(b, byte(token>>24), byte(token>>16), byte(token>>8), byte(token))
	return append(b, make([]byte, max(0, 64-len(b)))...)
}

// pursed is an encoding with these bytes behind a purse's first five numbers.
func pursed(more ...byte) []byte {
	b := []byte{224, byte(15 + len(more)), 1, 1, 1, 2, 1, 2, 3, 1, 9, 4, 1, 7, 5, 1, 1}
	return append(b, more...)
}

func TestExamples(t *testing.T) {
	form := []byte{0xE0, 0x13, 1, 1, 1, 2, 1, 2, 3, 1, 9, 4, 1, 7, 5, 1, 1, 6, 2, 1, 0xF4}
	isForm(t, purse, form, api.OK)
	isParsed(t, form, purse, api.OK)
	body := append(append([]byte{0x15}, form...), 0, 0, 0, 3)
	body = append(body, make([]byte, 38)...)
	isBody(t, purse, 3, body, api.OK)
	isOpened(t, body, purse, 3, api.OK)
	if _, e := (ipe.Thing{Product: purse}).Out(200); e != api.ErrState {
		t.Errorf("P10.3: Out ahead of In: %d", e)
	}
	in, e := ipe.Thing{Product: purse}.In(4, 1)
	if e != api.OK || !in.Open {
		t.Errorf("P10.3: In: %v, %d", in, e)
	}
	out, e := in.Out(200)
	if e != api.OK || out.Value != 300 || out.Txn != 2 {
		t.Errorf("P10.3: Out: %v, %d", out, e)
	}
}

// P10.1: each field's limits, in products that are small and in one that is as great as can be.
func TestRightLimits(t *testing.T) {
	for _, p := range some() {
		if !ipe.Right(p) {
			t.Errorf("P10.1: Right(%v)", p)
		}
		for _, f := range fields() {
			if f.truth() {
				continue
			}
			for _, n := range []int{math.MinInt, math.MinInt32, -256, -1, 0, 1, f.least - 1, f.least, f.least + 1, f.most - 1, f.most, f.most + 1, 256, 65536, 1<<31 + 1, 1 << 32, 1<<32 + 1, 1<<62 + 1, math.MaxInt} {
				q := p
				f.set(&q, n)
				want := n >= f.least && n <= f.most
				if got := ipe.Right(q); got != want {
					t.Errorf("P10.1: Right with %s %d: %v", f.name, n, got)
				}
				if want {
					isForm(t, q, encoded(q), api.OK)
					isParsed(t, encoded(q), q, api.OK)
				} else {
					isForm(t, q, nil, api.ErrArg)
					isBody(t, q, 1, nil, api.ErrArg)
				}
			}
		}
	}
}

// P10.1: Right of none, of many, and with a wrong one in each place.
func TestRightOfMany(t *testing.T) {
	if !ipe.Right() || !ipe.Right([]api.Product{}...) {
		t.Error("P10.1: Right of none")
	}
	ps := some()
	if !ipe.Right(ps...) || !ipe.Right(purse, purse) {
		t.Error("P10.1: Right of several")
	}
	for _, wrong := range []api.Product{{}, {Kind: api.Purse, Owner: 1, Id: 1, Card: 1}, {Kind: 5, Owner: 1, Id: 1, Card: 1, Ver: 1}} {
		for at := range len(ps) + 1 {
			if ipe.Right(slices.Insert(slices.Clone(ps), at, wrong)...) {
				t.Errorf("P10.1: Right with a wrong one at %d", at)
			}
		}
	}
	many := slices.Repeat([]api.Product{full}, 1<<16)
	if !ipe.Right(many...) {
		t.Error("P10.1: Right of very many")
	}
	many[len(many)-1].Zone = 256
	if ipe.Right(many...) {
		t.Error("P10.1: Right of very many, the last one wrong")
	}
}

// P10.1: a kind is checked as the number it is, not as a byte of it.
func TestRightKinds(t *testing.T) {
	for _, kind := range []api.Kind{0, 1, 2, 3, 4, 5, 255, 256, 257, 1<<32 + 1, -1, -255, math.MinInt, math.MinInt + 1, math.MaxInt} {
		p := purse
		p.Kind = kind
		if got := ipe.Right(p); got != (kind >= 1 && kind <= 4) {
			t.Errorf("P10.1: Right of the kind %d: %v", kind, got)
		}
	}
}

// P10.1: the least and the greatest encoding, written out.
func TestFormWrittenOut(t *testing.T) {
	least := api.Product{Kind: api.Pass, Owner: 1, Id: 1, Card: 1, Ver: 1}
	isForm(t, least, []byte{224, 15, 1, 1, 2, 2, 1, 1, 3, 1, 1, 4, 1, 1, 5, 1, 1}, api.OK)
	greatest := []byte{224, 51, 1, 1, 4, 2, 1, 4, 3, 2, 255, 255, 4, 2, 255, 255, 5, 1, 255, 6, 4, 128, 0, 0, 0,
		7, 2, 255, 255, 8, 1, 255, 9, 1, 1, 10, 1, 255, 11, 2, 255, 255, 12, 2, 255, 255, 13, 2, 255, 255, 14, 1, 1}
	isForm(t, full, greatest, api.OK)
	isParsed(t, greatest, full, api.OK)
	body := append(append([]byte{53}, greatest...), 127, 255, 255, 255, 0, 0, 0, 0, 0, 0)
	isBody(t, full, 1<<31-1, body, api.OK)
	isOpened(t, body, full, 1<<31-1, api.OK)
}

// P10.1: each choice of the numbers that may be 0.
func TestFormChoices(t *testing.T) {
	fs := fields()[5:]
	for choice := range 1 << len(fs) {
		p := api.Product{Kind: api.Carnet, Owner: 3, Id: 256, Card: 255, Ver: 2}
		for i, f := range fs {
			if choice>>i&1 == 1 {
				f.set(&p, (f.most+1)/2)
			}
		}
		isForm(t, p, encoded(p), api.OK)
		isParsed(t, encoded(p), p, api.OK)
	}
}

// P10.1: an encoding that ends too soon, at each place.
func TestParseShort(t *testing.T) {
	isWrong(t, api.ErrForm)
	for _, p := range some() {
		form := encoded(p)
		for end := 1; end < len(form); end++ {
			isWrong(t, api.ErrShort, form[:end]...)
		}
	}
}

// P10.1: what is well nested, but no valid product's encoding.
func TestParseOtherForms(t *testing.T) {
	isParsed(t, pursed(), api.Product{Kind: api.Purse, Owner: 2, Id: 9, Card: 7, Ver: 1}, api.OK)
	form := pursed(6, 1, 5)
	isParsed(t, form, api.Product{Kind: api.Purse, Owner: 2, Id: 9, Card: 7, Ver: 1, Value: 5}, api.OK)
	for _, b := range [][]byte{
		{}, {224, 0}, {1, 0}, {223, 0}, {225, 0}, {1, 1, 1},
		// Other elements ahead of it and behind it, and its numbers without it or in another one.
		slices.Concat([]byte{1, 0}, form), slices.Concat([]byte{223, 0}, form), slices.Concat(form, []byte{225, 0}), slices.Concat(form, []byte{255, 0}),
		form[2:], slices.Concat([]byte{223}, form[1:]), slices.Concat([]byte{225}, form[1:]), slices.Concat([]byte{96}, form[1:]), slices.Concat([]byte{224, byte(len(form))}, form),
		// Numbers that there are none of, alone and behind others.
		pursed(15, 0), pursed(15, 1, 1), pursed(127, 0), pursed(128, 0), pursed(224, 0), pursed(255, 0), pursed(6, 1, 5, 15, 1, 1), pursed(201, 3, 6, 1, 5),
		// Zeros that should not be there.
		pursed(6, 0), pursed(6, 1, 0), pursed(6, 2, 0, 5), pursed(9, 0), pursed(9, 1, 0), pursed(9, 2, 0, 1), pursed(14, 0), pursed(14, 1, 0),
		// Truth is 1, and nothing else.
		pursed(9, 1, 2), pursed(9, 1, 255), pursed(9, 2, 1, 0), pursed(9, 2, 1, 1), pursed(14, 1, 2), pursed(14, 1, 3), pursed(14, 4, 1, 0, 0, 0),
		// Too great: by one, by a byte, by more bytes than a number may have.
		pursed(6, 4, 128, 0, 0, 1), pursed(6, 5, 1, 0, 0, 0, 0), pursed(6, 7, 255, 255, 255, 255, 255, 255, 255), pursed(6, 8, 1, 0, 0, 0, 0, 0, 0, 5),
		pursed(6, 9, 1, 0, 0, 0, 0, 0, 0, 0, 5), pursed(7, 3, 1, 0, 0), pursed(8, 2, 1, 0), pursed(10, 2, 1, 0), pursed(11, 3, 1, 0, 0), pursed(12, 3, 1, 0, 0), pursed(13, 3, 1, 0, 0),
		pursed(slices.Concat([]byte{6, 200}, bytes.Repeat([]byte{1}, 200))...),
	} {
		isWrong(t, api.ErrForm, b...)
	}
}

// P10.1: a number that has to be there is missing, 0, or too great.
func TestParseFirstNumbers(t *testing.T) {
	for at, contents := range [][][]byte{
		{{0}, {0, 1}, {5}, {255}, {1, 1}},
		{{0}, {0, 1}, {5}, {255}, {1, 1}},
		{{0}, {0, 1}, {1, 0, 0}, {1, 0, 1}},
		{{0}, {0, 1}, {1, 0, 0}, {1, 0, 1}},
		{{0}, {0, 1}, {1, 0}, {1, 1}},
	} {
		for _, content := range append(contents, []byte{}, nil) {
			inner := pursed()[2:]
			middle := append([]byte{byte(at + 1), byte(len(content))}, content...)
			if content == nil {
				middle = nil
			}
			inner = slices.Concat(inner[:3*at], middle, inner[3*at+3:])
			isWrong(t, api.ErrForm, append([]byte{224, byte(len(inner))}, inner...)...)
		}
	}
}

// P10.1: the errors of layer 4, also where the rest could be no product's.
func TestParseErrorsOfGet(t *testing.T) {
	isWrong(t, api.ErrForm, 0)
	isWrong(t, api.ErrForm, 0, 0)
	isWrong(t, api.ErrShort, 224)
	isWrong(t, api.ErrShort, 1)
	isWrong(t, api.ErrShort, 1, 2, 3)
	isWrong(t, api.ErrNest, 224, 8, 128, 6, 128, 4, 128, 2, 1, 0)
	isWrong(t, api.ErrNest, 225, 8, 128, 6, 128, 4, 128, 2, 1, 0)
	isWrong(t, api.ErrForm, 224, 6, 128, 4, 128, 2, 128, 0)
	isWrong(t, api.ErrShort, append(pursed(), 225)...)
	isWrong(t, api.ErrForm, append(pursed(), 224, 0)...)
	isWrong(t, api.ErrForm, append(pursed(), 1)...)
	isWrong(t, api.ErrForm, append(pursed(), 0, 0, 0)...)
	isWrong(t, api.ErrShort, pursed(6, 2, 5)...)
	isWrong(t, api.ErrShort, pursed(6)...)
	isWrong(t, api.ErrForm, pursed(5, 1, 1)...)
	isWrong(t, api.ErrForm, pursed(6, 1, 5, 6, 1, 5)...)
	isWrong(t, api.ErrForm, pursed(7, 1, 5, 6)...)
	isWrong(t, api.ErrForm, pursed(0)...)
	// A wrong number, and behind it an error of layer 4.
	isWrong(t, api.ErrShort, pursed(6, 1, 0, 7, 2, 1)...)
	isWrong(t, api.ErrShort, append(pursed(15, 1, 1), 255)...)
}

// changed calls f with b after each change of one byte, each byte taken out, and each byte put in.
func changed(b []byte, f func(c []byte)) {
	for at := range b {
		for x := range 256 {
			c := slices.Clone(b)
			c[at] = byte(x)
			f(c)
		}
		f(slices.Delete(slices.Clone(b), at, at+1))
		c := slices.Delete(slices.Clone(b), at, at+1)
		c[1]--
		f(c)
	}
	for at := range len(b) + 1 {
		for x := range 256 {
			c := slices.Insert(slices.Clone(b), at, byte(x))
			f(c)
			c = slices.Clone(c)
			c[1]++
			f(c)
		}
	}
}

func TestParseByAnotherWay(t *testing.T) {
	seen := map[api.Errno]int{}
	check := func(b []byte) {
		p, e := parsed(b)
		seen[e]++
		isParsed(t, b, p, e)
		if e == api.OK {
			isForm(t, p, b, api.OK)
		}
	}
	for _, p := range some() {
		changed(encoded(p), check)
	}
	d := dice(10)
	for range 20000 {
		b := encoded(d.product())
		for range d.below(4) {
			b[d.below(len(b))] += byte(1 + d.below(3))
		}
		check(b)
	}
	for _, e := range []api.Errno{api.OK, api.ErrForm, api.ErrShort} {
		if seen[e] < 100 {
			t.Errorf("the answer %d came %d times only", e, seen[e])
		}
	}
}

// P10.2: tokens at the limits and beyond; a product that is not valid.
func TestBodyTokens(t *testing.T) {
	for _, p := range some() {
		for _, token := range []api.Token{1, 2, 3, 255, 256, 65535, 65536, 0x01020304, 1<<24 - 1, 1 << 24, 1 << 30, 1<<31 - 2, 1<<31 - 1} {
			body := laidBody(encoded(p), int(token))
			isBody(t, p, token, body, api.OK)
			isOpened(t, body, p, token, api.OK)
		}
		for _, token := range []api.Token{0, -1, -2, math.MinInt32, math.MinInt, math.MinInt + 1, 1 << 31, 1<<31 + 1, 1<<32 - 1, 1 << 32, 1<<32 + 1, math.MaxInt} {
			isBody(t, p, token, nil, api.ErrArg)
		}
		isBody(t, api.Product{}, 1, nil, api.ErrArg)
		isBody(t, api.Product{}, 0, nil, api.ErrArg)
	}
}

// P10.2: bodies of other lengths, even where the beginning is right.
func TestOpenLengths(t *testing.T) {
	whole, _ := ipe.Body(purse, 3)
	for n := range 64 {
		isOpened(t, whole[:n], api.Product{}, 0, api.ErrShort)
		isOpened(t, bytes.Repeat([]byte{255}, n), api.Product{}, 0, api.ErrShort)
	}
	isOpened(t, nil, api.Product{}, 0, api.ErrShort)
	for _, n := range []int{65, 66, 127, 128, 256, 320, 1 << 16} {
		isOpened(t, append(slices.Clone(whole), make([]byte, n-64)...), api.Product{}, 0, api.ErrLong)
		isOpened(t, bytes.Repeat([]byte{255}, n), api.Product{}, 0, api.ErrLong)
	}
	// What lies in the spare capacity is no part of the body.
	isOpened(t, append(slices.Clone(whole), 9)[:64], purse, 3, api.OK)
	isOpened(t, whole[:63:63], api.Product{}, 0, api.ErrShort)
}

// P10.2: each first byte, whatever comes behind it.
func TestOpenFirstByte(t *testing.T) {
	for _, p := range some() {
		form := encoded(p)
		for n := range 256 {
			body := laidBody(form, 3)
			body[0] = byte(n)
			want, token, e := opened(body)
			isOpened(t, body, want, token, e)
			if n > 59 && e != api.ErrForm {
				t.Errorf("the first byte %d: %d", n, e)
			}
		}
	}
	// The greatest length leaves just the token: it is read, and its error is layer 4's.
	body := append([]byte{59}, make([]byte, 63)...)
	copy(body[1:], []byte{1, 60})
	isOpened(t, body, api.Product{}, 0, api.ErrShort)
	body[0] = 60
	isOpened(t, body, api.Product{}, 0, api.ErrForm)
	body[0] = 0
	isOpened(t, body, api.Product{}, 0, api.ErrForm)
}

// P10.2: errors of the encoding.
func TestOpenForms(t *testing.T) {
	for _, c := range []struct {
		form []byte
		e    api.Errno
	}{
		{nil, api.ErrForm}, {pursed()[:5], api.ErrShort}, {[]byte{224, 8, 128, 6, 128, 4, 128, 2, 1, 0}, api.ErrNest}, {[]byte{0, 0}, api.ErrForm},
		{pursed(9, 1, 2), api.ErrForm}, {pursed(6, 1, 0), api.ErrForm}, {append(pursed(), 255, 0), api.ErrForm}, {append(pursed(), 255), api.ErrShort},
	} {
		isOpened(t, laidBody(c.form, 3), api.Product{}, 0, c.e)
	}
}

// P10.2: a byte behind the token that is not 0, at each place.
func TestOpenTrail(t *testing.T) {
	for _, p := range some() {
		form := encoded(p)
		for at := len(form) + 5; at < 64; at++ {
			for _, x := range []byte{1, 2, 128, 255} {
				body := laidBody(form, 3)
				body[at] = x
				isOpened(t, body, api.Product{}, 0, api.ErrTrail)
			}
		}
	}
}

// P10.2: of several errors the first one.
func TestOpenErrorsInOrder(t *testing.T) {
	form := encoded(purse)
	wrong := slices.Clone(form)
	wrong[2+2] = 5
	trail := func(b []byte) []byte {
		b[63] = 1
		return b
	}
	isOpened(t, trail(laidBody(wrong, 0)), api.Product{}, 0, api.ErrForm)
	isOpened(t, trail(laidBody(form[:len(form)-1], 0)), api.Product{}, 0, api.ErrShort)
	for _, token := range []int{0, 1 << 31, 1<<32 - 1} {
		isOpened(t, trail(laidBody(form, token)), api.Product{}, 0, api.ErrTrail)
		isOpened(t, laidBody(form, token), api.Product{}, 0, api.ErrForm)
		isOpened(t, laidBody(form[:len(form)-1], token), api.Product{}, 0, api.ErrShort)
	}
	long := trail(laidBody(form, 0))
	long[0] = 200
	isOpened(t, long, api.Product{}, 0, api.ErrForm)
}

func TestOpenByAnotherWay(t *testing.T) {
	seen := map[api.Errno]int{}
	check := func(body []byte) {
		p, token, e := opened(body)
		seen[e]++
		isOpened(t, body, p, token, e)
		if e == api.OK {
			isBody(t, p, token, body, api.OK)
		}
	}
	for _, p := range some() {
		changed(laidBody(encoded(p), 0x7F010203), check)
	}
	d := dice(11)
	for range 20000 {
		body := laidBody(encoded(d.product()), 1+d.below(1<<31-1)>>d.below(31))
		for range d.below(4) {
			body[d.below(len(body))] += byte(1 + d.below(3))
		}
		check(body)
	}
	for _, e := range []api.Errno{api.OK, api.ErrForm, api.ErrShort, api.ErrLong, api.ErrTrail} {
		if seen[e] < 100 {
			t.Errorf("the answer %d came %d times only", e, seen[e])
		}
	}
}

// row is a line of the table of what can be done with a thing: its errors in their order, each with whether it holds, and its effect.
type row struct {
	wrong  []wrong
	effect func(p *api.Product)
}

type wrong struct {
	e     api.Errno
	holds bool
}

func out(n, most int) bool {
	return n < 0 || n > most
}

func riding(p api.Product, day int) row {
	return row{[]wrong{
		{api.ErrArg, out(day, 65535)},
		{api.ErrState, p.Kind == api.Purse},
		{api.ErrDead, p.Kind == api.Pass && day > p.Last},
		{api.ErrPoor, p.Kind == api.Carnet && p.Rides == 0},
		{api.ErrPoor, p.Kind == api.Ticket && p.Rides == 0},
	}, func(p *api.Product) {
		if p.Kind != api.Pass {
			p.Rides--
		}
	}}
}

func going(p api.Product, zone, day int) row {
	return row{[]wrong{
		{api.ErrArg, out(zone, 255)},
		{api.ErrArg, out(day, 65535)},
		{api.ErrState, p.Kind != api.Purse},
		{api.ErrState, p.Open},
	}, func(p *api.Product) {
		p.Open, p.Zone, p.Day = true, zone, day
	}}
}

func leaving(p api.Product, fare int) row {
	return row{[]wrong{
		{api.ErrArg, fare < 0},
		{api.ErrState, p.Kind != api.Purse},
		{api.ErrState, !p.Open},
		{api.ErrPoor, fare > p.Value},
	}, func(p *api.Product) {
		p.Value, p.Open, p.Zone, p.Day = p.Value-fare, false, 0, 0
	}}
}

func adding(p api.Product, amount int) row {
	return row{[]wrong{
		{api.ErrArg, amount < 0},
		{api.ErrState, p.Kind != api.Purse},
		{api.ErrOver, uint64(amount)+uint64(p.Value) > 1<<31},
	}, func(p *api.Product) {
		p.Value += amount
	}}
}

// result is what the table says of a product.
func (r row) result(p api.Product) (ipe.Thing, api.Errno) {
	if p.Blocked {
		return ipe.Thing{}, api.ErrHot
	}
	for _, w := range append(r.wrong, wrong{api.ErrOver, p.Txn == 65535}) {
		if w.holds {
			return ipe.Thing{}, w.e
		}
	}
	r.effect(&p)
	p.Txn++
	return ipe.Thing{Product: p}, api.OK
}

// trial holds what is done with things against the table, and counts the answers.
type trial struct {
	*testing.T
	seen map[string]int
}

func (t trial) is(what string, p api.Product, r row, got ipe.Thing, e api.Errno) {
	t.Helper()
	want, wantE := r.result(p)
	t.seen[what+" "+strconv.Itoa(int(wantE))]++
	if got != want || e != wantE {
		t.Errorf("P10.3: %s of %v: %v, %d; should be %v, %d", what, p, got, e, want, wantE)
	}
	if e == api.OK && !ipe.Right(got.Product) {
		t.Errorf("P10.4: %s of %v: %v is not valid", what, p, got)
	}
	if e == api.OK && got.Value > p.Value && what != "Add" {
		t.Errorf("P10.4: %s of %v: the value is %d", what, p, got.Value)
	}
	if e == api.OK && (got.Value < 0 || got.Txn != p.Txn+1) {
		t.Errorf("P10.4: %s of %v: %v", what, p, got)
	}
}

// all does everything with a product, with each of these numbers.
func (t trial) all(p api.Product, ns []int) {
	t.Helper()
	thing := ipe.Thing{Product: p}
	for _, n := range ns {
		next, e := thing.Ride(n)
		t.is("Ride", p, riding(p, n), next, e)
		next, e = thing.Out(n)
		t.is("Out", p, leaving(p, n), next, e)
		next, e = thing.Add(n)
		t.is("Add", p, adding(p, n), next, e)
		for _, day := range ns {
			next, e = thing.In(n, day)
			t.is("In", p, going(p, n, day), next, e)
		}
	}
	p.Blocked = true
	if got := thing.Block(); got.Product != p {
		t.Errorf("P10.3: Block: %v; should be %v", got, p)
	}
}

// products are valid ones, each with each choice of what the table asks about.
func products() []api.Product {
	var ps []api.Product
	for _, kind := range []api.Kind{api.Purse, api.Pass, api.Carnet, api.Ticket} {
		for _, value := range []int{0, 1, 500, 1<<31 - 1, 1 << 31} {
			for _, last := range []int{0, 5, 65535} {
				for _, rides := range []int{0, 1, 255} {
					for _, txn := range []int{0, 7, 65534, 65535} {
						for truths := range 4 {
							p := api.Product{Kind: kind, Owner: 3, Id: 9, Card: 300, Ver: 2, Value: value, Last: last, Rides: rides, Txn: txn, Act: 4}
							p.Open, p.Blocked = truths&1 > 0, truths&2 > 0
							if p.Open {
								p.Zone, p.Day = 200, 1000
							}
							ps = append(ps, p)
						}
					}
				}
			}
		}
	}
	return ps
}

func TestThingsByTheTable(t *testing.T) {
	tr := trial{t, map[string]int{}}
	ns := []int{math.MinInt, -1, 0, 1, 4, 5, 6, 255, 256, 499, 500, 501, 65535, 65536, 1<<31 - 1, 1 << 31, 1<<31 + 1, 1 << 32, math.MaxInt - 1, math.MaxInt}
	for _, p := range products() {
		tr.all(p, ns)
	}
	for _, answer := range []string{
		"Ride 0", "Ride 25", "Ride 2", "Ride 28", "Ride 26", "Ride 27", "Ride 29",
		"In 0", "In 25", "In 2", "In 28", "In 29",
		"Out 0", "Out 25", "Out 2", "Out 28", "Out 27", "Out 29",
		"Add 0", "Add 25", "Add 2", "Add 28", "Add 29",
	} {
		if tr.seen[answer] == 0 {
			t.Errorf("nothing that was tried answers %s", answer)
		}
	}
}

// P10.3: the fields that a row of the table does not name stay, whatever they are.
func TestThingsByDice(t *testing.T) {
	tr := trial{t, map[string]int{}}
	d := dice(12)
	for range 3000 {
		p := d.product()
		p.Blocked = p.Blocked && d.below(4) == 0
		tr.all(p, []int{d.below(300), d.below(65536), p.Value, p.Last, 1<<31 - p.Value, d.below(1 << 31), 0})
	}
}

func isThing(t *testing.T, what string, got ipe.Thing, e api.Errno, want api.Product) {
	t.Helper()
	if got.Product != want || e != api.OK {
		t.Errorf("P10.3: %s: %v, %d; should be %v", what, got, e, want)
	}
}

func isRefused(t *testing.T, what string, got ipe.Thing, e, want api.Errno) {
	t.Helper()
	if got != (ipe.Thing{}) || e != want {
		t.Errorf("P10.3: %s: %v, %d; should be %d", what, got, e, want)
	}
}

// P10.3: of several errors the first one.
func TestThingErrorsInOrder(t *testing.T) {
	a := ipe.Thing{Product: purse}
	a.Blocked, a.Txn = true, 65535
	got, e := a.Ride(-1)
	isRefused(t, "a blocked one's Ride", got, e, api.ErrHot)
	got, e = a.In(-1, -1)
	isRefused(t, "a blocked one's In", got, e, api.ErrHot)
	got, e = a.Out(-1)
	isRefused(t, "a blocked one's Out", got, e, api.ErrHot)
	got, e = a.Add(-1)
	isRefused(t, "a blocked one's Add", got, e, api.ErrHot)
	a.Blocked = false
	got, e = a.Ride(65536)
	isRefused(t, "a wrong day", got, e, api.ErrArg)
	got, e = a.Ride(65535)
	isRefused(t, "a purse's Ride", got, e, api.ErrState)
	got, e = a.In(255, 65535)
	isRefused(t, "In of the last number", got, e, api.ErrOver)
	got, e = a.Out(501)
	isRefused(t, "Out without In", got, e, api.ErrState)
	a.Open = true
	got, e = a.In(255, 65535)
	isRefused(t, "In twice", got, e, api.ErrState)
	got, e = a.Out(501)
	isRefused(t, "Out of too little", got, e, api.ErrPoor)
	got, e = a.Out(500)
	isRefused(t, "Out of the last number", got, e, api.ErrOver)
	got, e = a.Add(0)
	isRefused(t, "Add of the last number", got, e, api.ErrOver)
	b := ipe.Thing{Product: pass}
	b.Txn = 65535
	got, e = b.Ride(6)
	isRefused(t, "a dead pass", got, e, api.ErrDead)
	got, e = b.Ride(5)
	isRefused(t, "Ride of the last number", got, e, api.ErrOver)
	got, e = b.Add(1 << 40)
	isRefused(t, "a pass's Add", got, e, api.ErrState)
	c := ipe.Thing{Product: ticket}
	c.Txn, c.Rides = 65535, 0
	got, e = c.Ride(0)
	isRefused(t, "a ticket without rides", got, e, api.ErrPoor)
}

// P10.3: what each kind's own life looks like, to its end.
func TestLives(t *testing.T) {
	want := ticket
	a, e := ipe.Thing{Product: ticket}.Ride(65535)
	want.Rides, want.Txn = 0, 1
	isThing(t, "a ticket's ride", a, e, want)
	a, e = a.Ride(0)
	isRefused(t, "a ticket's second ride", a, e, api.ErrPoor)
	want = carnet
	a = ipe.Thing{Product: carnet}
	for n := 1; n <= 10; n++ {
		a, e = a.Ride(n)
		want.Rides, want.Txn = 10-n, n
		isThing(t, "a carnet's ride", a, e, want)
	}
	a, e = a.Ride(11)
	isRefused(t, "a carnet's eleventh ride", a, e, api.ErrPoor)
	want = pass
	a = ipe.Thing{Product: pass}
	for n := 1; n <= 300; n++ {
		a, e = a.Ride(n % 6)
		want.Txn = n
		isThing(t, "a pass's ride", a, e, want)
	}
	want = purse
	a = ipe.Thing{Product: purse}
	for n := range 5 {
		a, e = a.In(n, n)
		want.Open, want.Zone, want.Day, want.Txn = true, n, n, 2*n+1
		isThing(t, "a purse's In", a, e, want)
		a, e = a.Out(100)
		want.Open, want.Zone, want.Day, want.Txn, want.Value = false, 0, 0, 2*n+2, 400-100*n
		isThing(t, "a purse's Out", a, e, want)
	}
	a, e = a.In(0, 0)
	want.Open, want.Txn = true, 11
	isThing(t, "an empty purse's In", a, e, want)
	_, e = a.Out(1)
	isRefused(t, "an empty purse's Out", ipe.Thing{}, e, api.ErrPoor)
	a, e = a.Out(0)
	want.Open, want.Txn = false, 12
	isThing(t, "an empty purse's Out of nothing", a, e, want)
	a, e = a.Add(1 << 31)
	want.Value, want.Txn = 1<<31, 13
	isThing(t, "Add of all", a, e, want)
	a, e = a.Add(0)
	want.Txn = 14
	isThing(t, "Add of nothing", a, e, want)
	_, e = a.Add(1)
	isRefused(t, "Add of too much", ipe.Thing{}, e, api.ErrOver)
}

// P10.3: a thing that is blocked stays so, and blocking counts as nothing.
func TestBlock(t *testing.T) {
	for _, p := range append(some(), api.Product{}) {
		want := p
		want.Blocked = true
		a := ipe.Thing{Product: p}
		isThing(t, "Block", a.Block(), api.OK, want)
		isThing(t, "Block twice", a.Block().Block(), api.OK, want)
		if a.Product != p {
			t.Errorf("P10.4: Block changed the thing to %v", a)
		}
	}
}

// P10.4: there and back again, and no two products with one encoding.
func TestOneEncodingEach(t *testing.T) {
	d := dice(13)
	seen := map[string]api.Product{}
	for range 20000 {
		p := d.product()
		form, e := ipe.Form(p)
		if e != api.OK || len(form) > 59 {
			t.Fatalf("P10.4: Form(%v): %x, %d", p, form, e)
		}
		if q, ok := seen[string(form)]; ok && q != p {
			t.Errorf("P10.4: %v and %v are both %x", p, q, form)
		}
		seen[string(form)] = p
		isForm(t, p, encoded(p), api.OK)
		isParsed(t, form, p, api.OK)
		token := api.Token(1 + d.below(1<<31-1))
		body, _ := ipe.Body(p, token)
		isBody(t, p, token, laidBody(form, int(token)), api.OK)
		isOpened(t, body, p, token, api.OK)
	}
	if len(seen) < 15000 {
		t.Errorf("%d products only", len(seen))
	}
}

// P10.4: rows of calls keep a product valid, and only Add makes it worth more.
func TestRows(t *testing.T) {
	tr := trial{t, map[string]int{}}
	d := dice(14)
	for range 300 {
		a := ipe.Thing{Product: d.product()}
		a.Blocked = false
		for range 60 {
			was, n := a.Product, d.below(1<<31)>>d.below(31)
			var next ipe.Thing
			var e api.Errno
			switch d.below(4) {
			case 0:
				next, e = a.Ride(n)
				tr.is("Ride", was, riding(was, n), next, e)
			case 1:
				next, e = a.In(n%300, n)
				tr.is("In", was, going(was, n%300, n), next, e)
			case 2:
				next, e = a.Out(n)
				tr.is("Out", was, leaving(was, n), next, e)
			case 3:
				next, e = a.Add(n)
				tr.is("Add", was, adding(was, n), next, e)
			}
			if a.Product != was {
				t.Fatalf("P10.4: the thing changed from %v to %v", was, a)
			}
			if e == api.OK {
				a = next
			}
			isParsed(t, encoded(a.Product), a.Product, api.OK)
		}
	}
}

// P10.4: arguments stay, their spare capacity too; results are nobody else's.
func TestMemory(t *testing.T) {
	form, _ := ipe.Form(purse)
	again, _ := ipe.Form(purse)
	scribble(form)
	if !bytes.Equal(again, encoded(purse)) {
		t.Errorf("P10.4: two encodings share memory: %x", again)
	}
	isForm(t, purse, encoded(purse), api.OK)
	body, _ := ipe.Body(purse, 3)
	other, _ := ipe.Body(purse, 3)
	scribble(body)
	if !bytes.Equal(other, laidBody(encoded(purse), 3)) {
		t.Errorf("P10.4: two bodies share memory: %x", other)
	}
	isBody(t, purse, 3, laidBody(encoded(purse), 3), api.OK)
	for _, b := range [][]byte{encoded(purse), encoded(full), {224, 0}, {1}, {0, 0}} {
		room := append(slices.Clone(b), 7, 7, 7, 7)
		was := slices.Clone(room)
		ipe.Parse(room[:len(b)])
		if !bytes.Equal(room, was) {
			t.Errorf("P10.4: Parse changed %x to %x", was, room)
		}
		room = append(laidBody(b, 3), 7, 7, 7, 7)
		was = slices.Clone(room)
		p, token, e := ipe.Open(room[:64])
		if !bytes.Equal(room, was) {
			t.Errorf("P10.4: Open changed %x to %x", was, room)
		}
		scribble(room)
		isOpened(t, was[:64], p, token, e)
	}
	ps := some()
	ipe.Right(ps[:3]...)
	if !slices.Equal(ps, some()) {
		t.Errorf("P10.4: Right changed its products to %v", ps)
	}
}

// P1: whatever is given, every call ends and does not panic; of things that can't be nothing else is promised.
func TestNoPanic(t *testing.T) {
	ns := []int{math.MinInt, math.MinInt + 1, -1, 0, 1, 65535, 65536, 1 << 31, math.MaxInt - 1, math.MaxInt}
	for _, f := range fields() {
		for _, base := range append(some(), api.Product{}) {
			for _, n := range ns {
				p := base
				f.set(&p, n)
				ipe.Right(p)
				ipe.Form(p)
				ipe.Body(p, api.Token(n))
				a := ipe.Thing{Product: p}
				a.Block()
				for _, x := range ns {
					a.Ride(x)
					a.In(x, n)
					a.In(n, x)
					a.Out(x)
					a.Add(x)
				}
			}
		}
	}
	d := dice(15)
	for range 20000 {
		b := make([]byte, d.below(80))
		for i := range b {
			b[i] = byte(d.below(256) >> d.below(8))
		}
		p, e := parsed(b)
		isParsed(t, b, p, e)
		b = append(b, make([]byte, 80)...)[:64]
		b[0] %= 64
		p, token, e := opened(b)
		isOpened(t, b, p, token, e)
	}
	for _, x := range []byte{0, 1, 127, 128, 224, 255} {
		b := bytes.Repeat([]byte{x}, 1<<20)
		_, want := parsed(b)
		if p, e := ipe.Parse(b); p != (api.Product{}) || e != want {
			t.Errorf("P1: Parse of very many bytes %d: %v, %d; should be %d", x, p, e, want)
		}
	}
}
