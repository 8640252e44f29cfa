package isam_test

import (
	"bytes"
	"math"
	"slices"
	"strconv"
	"testing"

	"farebox/api"
	"farebox/ipe"
	"farebox/isam"
	"farebox/oracle"
)

var (
	purse  = api.Product{Kind: api.Purse, Owner: 2, Id: 9, Card: 7, Ver: 1, Value: 500}
	pass   = api.Product{Kind: api.Pass, Owner: 1, Id: 1, Card: 1, Ver: 1, Last: 5}
	carnet = api.Product{Kind: api.Carnet, Owner: 3, Id: 2, Card: 300, Ver: 7, Rides: 10, Act: 3, Blocked: true}
	ticket = api.Product{Kind: api.Ticket, Owner: 4, Id: 65535, Card: 65535, Ver: 255, Value: 1 << 31, Last: 65535, Rides: 255, Open: true, Zone: 255, Day: 65535, Txn: 65535, Act: 65535, Blocked: true}
)

// edges are numbers at which something might turn.
var edges = []int{math.MinInt, math.MinInt + 1, math.MinInt32, -257, -256, -255, -2, -1, 0, 1, 2, 3, 4, 5, 6, 254, 255, 256, 257, 260, 65535, 65536, 1<<31 - 1, 1 << 31, 1 << 32, 1<<32 + 1, 1<<40 + 2, math.MaxInt - 1, math.MaxInt}

func some() []api.Product {
	return []api.Product{purse, pass, carnet, ticket}
}

func entryOf(p api.Product) api.Entry {
	return api.Entry{Kind: p.Kind, Owner: p.Owner, Id: p.Id}
}

func module(t *testing.T, op int, o *oracle.Oracle, accepts ...int) *isam.Module {
	t.Helper()
	m, e := isam.New(op, o, accepts...)
	if m == nil || e != api.OK {
		t.Fatalf("P11.1: New(%d, %v): %d", op, accepts, e)
	}
	return m
}

// all accepts every owner.
func all(t *testing.T, op int, o *oracle.Oracle) *isam.Module {
	t.Helper()
	return module(t, op, o, 1, 2, 3, 4)
}

// scheme is what modules with one oracle should do, by another way: everything that was sealed stands in one row, as text.
type scheme struct {
	sealed []string
}

// text is a key and data, so that no two of them are the same.
func text(k api.Key, data []byte) string {
	s := ""
	for _, n := range []int{k.Op, k.Type, k.Card, k.Ver} {
		s += strconv.Itoa(n) + " "
	}
	return s + string(data)
}

func (s *scheme) mint(k api.Key, data []byte) api.Token {
	if at := slices.Index(s.sealed, text(k, data)); at >= 0 {
		return api.Token(at + 1)
	}
	s.sealed = append(s.sealed, text(k, data))
	return api.Token(len(s.sealed))
}

func (s *scheme) holds(t api.Token, k api.Key, data []byte) bool {
	return t >= 1 && int(t) <= len(s.sealed) && s.sealed[t-1] == text(k, data)
}

func productKey(p api.Product) api.Key {
	return api.Key{Op: p.Owner, Type: int(p.Kind), Card: p.Card, Ver: p.Ver}
}

func encoded(p api.Product) []byte {
	b, _ := ipe.Form(p)
	return b
}

func messageKey(from int) api.Key {
	return api.Key{Op: from, Ver: 1}
}

func messageData(x api.Msg) []byte {
	return append([]byte{byte(x.Kind), byte(x.From), byte(x.To)}, x.Body...)
}

func rightMessage(x api.Msg) bool {
	return x.Kind >= 1 && x.Kind <= 255 && x.From >= 0 && x.From <= 4 && x.To >= 0 && x.To <= 4
}

func (s *scheme) seal(owners []int, p api.Product) ([]byte, api.Errno) {
	switch {
	case !ipe.Right(p):
		return nil, api.ErrArg
	case !slices.Contains(owners, p.Owner):
		return nil, api.ErrOwner
	}
	return ipe.Body(p, s.mint(productKey(p), encoded(p)))
}

func (s *scheme) open(owners []int, id int, entry api.Entry, body []byte) (api.Product, api.Errno) {
	p, token, e := ipe.Open(body)
	at := entryOf(p)
	at.Slot = entry.Slot
	switch {
	case e != api.OK:
		return api.Product{}, e
	case p.Card != id || at != entry:
		return api.Product{}, api.ErrForm
	case !slices.Contains(owners, p.Owner):
		return api.Product{}, api.ErrOwner
	case !s.holds(token, productKey(p), encoded(p)):
		return api.Product{}, api.ErrSeal
	}
	return p, api.OK
}

func (s *scheme) post(from int, kind api.MsgKind, to int, body []byte) (api.Msg, api.Errno) {
	x := api.Msg{Kind: kind, From: from, To: to, Body: body}
	if !rightMessage(x) {
		return api.Msg{}, api.ErrArg
	}
	x.Token = s.mint(messageKey(from), messageData(x))
	return x, api.OK
}

func (s *scheme) check(x api.Msg) api.Errno {
	switch {
	case !rightMessage(x):
		return api.ErrArg
	case !s.holds(x.Token, messageKey(x.From), messageData(x)):
		return api.ErrSeal
	}
	return api.OK
}

// dice are numbers made by a fixed rule.
type dice uint64

func (d *dice) below(n int) int {
	*d = *d*6364136223846793005 + 1442695040888963407
	return int(uint64(*d)>>33) % n
}

// scribble changes all that a result's holder can reach, the spare capacity too.
func scribble(b []byte) {
	b = b[:cap(b)]
	for i := range b {
		b[i] ^= 0xEE
	}
}

func isSealed(t *testing.T, m *isam.Module, p api.Product, want []byte, wantE api.Errno) {
	t.Helper()
	if got, e := m.Seal(p); !bytes.Equal(got, want) || e != wantE {
		t.Errorf("P11.2: Seal(%v): %x, %d; should be %x, %d", p, got, e, want, wantE)
	}
}

func isOpened(t *testing.T, m *isam.Module, id int, entry api.Entry, body []byte, want api.Product, wantE api.Errno) {
	t.Helper()
	if got, e := m.Open(id, entry, body); got != want || e != wantE {
		t.Errorf("P11.3: Open(%d, %v, %x): %v, %d; should be %v, %d", id, entry, body, got, e, want, wantE)
	}
}

func isRefused(t *testing.T, m *isam.Module, id int, entry api.Entry, body []byte, wantE api.Errno) {
	t.Helper()
	isOpened(t, m, id, entry, body, api.Product{}, wantE)
}

func same(x, y api.Msg) bool {
	return x.Kind == y.Kind && x.From == y.From && x.To == y.To && x.Token == y.Token && bytes.Equal(x.Body, y.Body)
}

func isPosted(t *testing.T, m *isam.Module, kind api.MsgKind, to int, body []byte, want api.Msg, wantE api.Errno) {
	t.Helper()
	if got, e := m.Post(kind, to, body); !same(got, want) || e != wantE {
		t.Errorf("P11.5: Post(%d, %d, %x): %v, %d; should be %v, %d", kind, to, body, got, e, want, wantE)
	}
}

func isChecked(t *testing.T, m *isam.Module, x api.Msg, want api.Errno) {
	t.Helper()
	if got := m.Check(x); got != want {
		t.Errorf("P11.5: Check(%v): %d; should be %d", x, got, want)
	}
}

// isIssued: what the oracle has issued, all of it.
func isIssued(t *testing.T, promise string, o *oracle.Oracle, want ...oracle.Minted) {
	t.Helper()
	for i := range want {
		want[i].Token = api.Token(i + 1)
	}
	if got := slices.Collect(o.All()); !slices.Equal(got, want) {
		t.Errorf("%s: the oracle has %v; should have %v", promise, got, want)
	}
}

func TestExamples(t *testing.T) {
	o := &oracle.Oracle{}
	m := module(t, 1, o, 2)
	body, e := m.Seal(purse)
	want, _ := ipe.Body(purse, 1)
	if !bytes.Equal(body, want) || e != api.OK {
		t.Fatalf("P11.2: Seal: %x, %d; should be %x", body, e, want)
	}
	isOpened(t, m, 7, entryOf(purse), body, purse, api.OK)
	isRefused(t, m, 8, entryOf(purse), body, api.ErrForm)
	isRefused(t, module(t, 3, o), 7, entryOf(purse), body, api.ErrOwner)
	turned := slices.Clone(body)
	turned[21] ^= 1
	isRefused(t, m, 7, entryOf(purse), turned, api.ErrSeal)
	for want := 1; want <= 2; want++ {
		if n, e := m.Next(); n != want || e != api.OK {
			t.Errorf("P11.4: Next: %d, %d; should be %d", n, e, want)
		}
	}
}

// P11.1: an operator, an oracle and owners that can't be, alone and beside others.
func TestNewErrors(t *testing.T) {
	o := &oracle.Oracle{}
	isWrong := func(op int, o *oracle.Oracle, accepts ...int) {
		t.Helper()
		if m, e := isam.New(op, o, accepts...); m != nil || e != api.ErrArg {
			t.Errorf("P11.1: New(%d, %v, %v): %v, %d", op, o, accepts, m, e)
		}
	}
	for _, n := range edges {
		isWrong(n, nil)
		isWrong(n, nil, n)
		if n < 0 || n > 4 {
			isWrong(n, o)
			isWrong(n, o, 1, 2)
		}
		if n >= 1 && n <= 4 {
			continue
		}
		for op := range 5 {
			isWrong(op, o, n)
			for at := range 5 {
				isWrong(op, o, slices.Insert([]int{1, 2, 3, 4}, at, n)...)
			}
		}
	}
	isWrong(1, o, append(slices.Repeat([]int{3}, 1<<16), 0)...)
	isIssued(t, "P11.1", o)
}

// P11.1: each operator with each choice of owners, told once or twice.
func TestAccepts(t *testing.T) {
	for op := range 5 {
		for choice := range 16 {
			var accepts []int
			for owner := 4; owner >= 1; owner-- {
				if choice>>(owner-1)&1 == 1 {
					accepts = append(accepts, owner)
				}
			}
			for _, given := range [][]int{accepts, slices.Repeat(accepts, 3)} {
				m := module(t, op, &oracle.Oracle{}, given...)
				if m.Op() != op || m.Last() != 0 {
					t.Errorf("P11.1: New(%d, %v): Op %d, Last %d", op, given, m.Op(), m.Last())
				}
				for _, owner := range edges {
					want := owner > 0 && (owner == op || slices.Contains(accepts, owner))
					if got := m.Accepts(owner); got != want {
						t.Errorf("P11.1: New(%d, %v): Accepts(%d): %v", op, given, owner, got)
					}
				}
			}
		}
	}
	m := module(t, 0, &oracle.Oracle{}, slices.Repeat([]int{3, 4}, 1<<16)...)
	if !m.Accepts(3) || !m.Accepts(4) || m.Accepts(1) || m.Accepts(0) {
		t.Error("P11.1: very many owners")
	}
}

// A module embeds the oracle that it was given: whatever the oracle answers, the module answers too.
func TestEmbedsTheOracle(t *testing.T) {
	o := &oracle.Oracle{}
	m, other := module(t, 1, o), module(t, 0, o)
	if m.Oracle != o || other.Oracle != o {
		t.Fatal("P11.1: another oracle than the one that was given")
	}
	token := m.Mint(api.Key{Ver: 1}, []byte("a"), []byte("b"))
	if token != 1 || !other.Holds(1, api.Key{Ver: 1}, []byte("ab")) || o.Len() != 1 || m.Len() != 1 {
		t.Errorf("P11.1: the oracle isn't shared: %d, %d", token, o.Len())
	}
}

// P11.2: what is sealed and by which key, and that a seal is issued once.
func TestSeal(t *testing.T) {
	o := &oracle.Oracle{}
	o.Mint(api.Key{}, []byte("something else"))
	want := []oracle.Minted{{Data: "something else"}}
	for i, p := range some() {
		k := api.Key{Op: p.Owner, Type: int(p.Kind), Card: p.Card, Ver: p.Ver}
		want = append(want, oracle.Minted{Key: k, Data: string(encoded(p))})
		body, _ := ipe.Body(p, api.Token(i+2))
		for op := range 5 {
			m := all(t, op, o)
			isSealed(t, m, p, body, api.OK)
			isSealed(t, m, p, body, api.OK)
		}
		isIssued(t, "P11.2", o, want...)
	}
}

// P11.2: each owner, by each operator, which accepts itself alone or one more.
func TestSealOwners(t *testing.T) {
	for op := range 5 {
		for owner := 1; owner <= 4; owner++ {
			p := purse
			p.Owner = owner
			body, _ := ipe.Body(p, 1)
			alone, more := &oracle.Oracle{}, &oracle.Oracle{}
			isSealed(t, module(t, op, more, owner), p, body, api.OK)
			if op == owner {
				isSealed(t, module(t, op, alone), p, body, api.OK)
				continue
			}
			isSealed(t, module(t, op, alone), p, nil, api.ErrOwner)
			isIssued(t, "P11.2", alone)
			isRefused(t, module(t, op, more), 7, entryOf(p), body, api.ErrOwner)
		}
	}
}

// P11.2: products that can't be, also where their owner isn't accepted; nothing is issued for them.
func TestSealErrors(t *testing.T) {
	o := &oracle.Oracle{}
	for _, change := range []func(p *api.Product, n int){
		func(p *api.Product, n int) { p.Kind = api.Kind(n) }, func(p *api.Product, n int) { p.Owner = n },
		func(p *api.Product, n int) { p.Id = n }, func(p *api.Product, n int) { p.Card = n }, func(p *api.Product, n int) { p.Ver = n },
		func(p *api.Product, n int) { p.Value = n }, func(p *api.Product, n int) { p.Last = n }, func(p *api.Product, n int) { p.Rides = n },
		func(p *api.Product, n int) { p.Zone = n }, func(p *api.Product, n int) { p.Day = n }, func(p *api.Product, n int) { p.Txn = n }, func(p *api.Product, n int) { p.Act = n },
	} {
		for _, n := range edges {
			p := purse
			if change(&p, n); ipe.Right(p) {
				continue
			}
			isSealed(t, module(t, 1, o, 2), p, nil, api.ErrArg)
			isSealed(t, module(t, 1, o), p, nil, api.ErrArg)
			isSealed(t, module(t, 0, o), p, nil, api.ErrArg)
		}
	}
	isSealed(t, all(t, 1, o), api.Product{}, nil, api.ErrArg)
	isIssued(t, "P11.2", o)
}

// P11.3: every module of the scheme opens what any of them sealed, if it accepts the owner; in which slot it lies doesn't count.
func TestOpen(t *testing.T) {
	for sealer := range 5 {
		o := &oracle.Oracle{}
		for _, p := range some() {
			body, _ := all(t, sealer, o).Seal(p)
			for opener := range 5 {
				isOpened(t, all(t, opener, o), p.Card, entryOf(p), body, p, api.OK)
				isOpened(t, module(t, opener, o, p.Owner), p.Card, entryOf(p), body, p, api.OK)
				if opener == p.Owner {
					isOpened(t, module(t, opener, o), p.Card, entryOf(p), body, p, api.OK)
				} else {
					isRefused(t, module(t, opener, o), p.Card, entryOf(p), body, api.ErrOwner)
				}
			}
			for _, slot := range edges {
				entry := entryOf(p)
				entry.Slot = slot
				isOpened(t, all(t, 1, o), p.Card, entry, body, p, api.OK)
			}
		}
		if o.Len() != len(some()) {
			t.Errorf("P11.3: Open issued seals: %d", o.Len())
		}
	}
}

// P11.3: another card and another product, each number of them alone.
func TestOpenElsewhere(t *testing.T) {
	o := &oracle.Oracle{}
	for _, p := range some() {
		body, _ := all(t, 1, o).Seal(p)
		for _, n := range append(slices.Clone(edges), 7, 9, 300, p.Card-1, p.Card+1, p.Card+1<<16, p.Card+1<<32, -p.Card) {
			kind, owner, id := entryOf(p), entryOf(p), entryOf(p)
			kind.Kind, owner.Owner, id.Id = api.Kind(n), n, n
			// Whose products it accepts doesn't matter yet.
			for _, m := range []*isam.Module{all(t, 1, o), module(t, 0, o)} {
				if n != p.Card {
					isRefused(t, m, n, entryOf(p), body, api.ErrForm)
				}
				if n != int(p.Kind) {
					isRefused(t, m, p.Card, kind, body, api.ErrForm)
				}
				if n != p.Owner {
					isRefused(t, m, p.Card, owner, body, api.ErrForm)
				}
				if n != p.Id {
					isRefused(t, m, p.Card, id, body, api.ErrForm)
				}
			}
		}
		isRefused(t, all(t, 1, o), 0, api.Entry{}, body, api.ErrForm)
	}
}

// P11.3: the errors in their order, with each of the later ones there too.
func TestOpenOrder(t *testing.T) {
	o := &oracle.Oracle{}
	m := module(t, 1, o)
	unsealed, _ := ipe.Body(purse, 1)
	elsewhere := entryOf(pass)
	long, ended, noToken, noForm := append(slices.Clone(unsealed), 0), slices.Clone(unsealed), slices.Clone(unsealed), slices.Clone(unsealed)
	ended[63] = 1
	copy(noToken[22:], []byte{0, 0, 0, 0})
	noForm[0] = 60
	cut := slices.Clone(unsealed)
	cut[0]--
	isRefused(t, m, 8, elsewhere, nil, api.ErrShort)
	isRefused(t, m, 8, elsewhere, unsealed[:63], api.ErrShort)
	isRefused(t, m, 8, elsewhere, long, api.ErrLong)
	isRefused(t, m, 8, elsewhere, noForm, api.ErrForm)
	isRefused(t, m, 8, elsewhere, cut, api.ErrShort)
	isRefused(t, m, 8, elsewhere, ended, api.ErrTrail)
	isRefused(t, m, 7, entryOf(purse), noToken, api.ErrForm)
	isRefused(t, m, 8, elsewhere, unsealed, api.ErrForm)
	isRefused(t, m, 7, entryOf(purse), unsealed, api.ErrOwner)
	isRefused(t, module(t, 1, o, 2), 7, entryOf(purse), unsealed, api.ErrSeal)
}

// P11.3: tokens that the oracle issued for something else, or not at all.
func TestOpenTokens(t *testing.T) {
	right := productKey(purse)
	data := encoded(purse)
	for i, forge := range []func(o *oracle.Oracle) api.Token{
		func(o *oracle.Oracle) api.Token { return 1 },
		func(o *oracle.Oracle) api.Token { return 1<<31 - 1 },
		func(o *oracle.Oracle) api.Token { return o.Mint(right) },
		func(o *oracle.Oracle) api.Token { return o.Mint(right, data[:len(data)-1]) },
		func(o *oracle.Oracle) api.Token { return o.Mint(right, data, []byte{0}) },
		func(o *oracle.Oracle) api.Token { return o.Mint(right, []byte{21}, data) },
		func(o *oracle.Oracle) api.Token { return o.Mint(right, data) + 1 },
		func(o *oracle.Oracle) api.Token { return o.Mint(api.Key{Op: 1, Type: 1, Card: 7, Ver: 1}, data) },
		func(o *oracle.Oracle) api.Token { return o.Mint(api.Key{Op: 2, Type: 2, Card: 7, Ver: 1}, data) },
		func(o *oracle.Oracle) api.Token { return o.Mint(api.Key{Op: 2, Type: 1, Card: 8, Ver: 1}, data) },
		func(o *oracle.Oracle) api.Token { return o.Mint(api.Key{Op: 2, Type: 1, Card: 7, Ver: 2}, data) },
		func(o *oracle.Oracle) api.Token { return o.Mint(api.Key{Op: 2, Type: 1, Ver: 1}, data) },
		func(o *oracle.Oracle) api.Token { return o.Mint(api.Key{Op: 2, Ver: 1}, data) },
		func(o *oracle.Oracle) api.Token { return o.Mint(api.Key{Ver: 1}, data) },
		func(o *oracle.Oracle) api.Token { return o.Mint(api.Key{}, data) },
	} {
		o := &oracle.Oracle{}
		token := forge(o)
		issued := o.Len()
		body, _ := ipe.Body(purse, token)
		isRefused(t, module(t, 1, o, 2), 7, entryOf(purse), body, api.ErrSeal)
		if o.Len() != issued {
			t.Errorf("P11.3: case %d: Open issued a seal", i)
		}
	}
	// The oracle's own token is the seal, whoever asked for it.
	o := &oracle.Oracle{}
	body, _ := ipe.Body(purse, o.Mint(right, data))
	isOpened(t, module(t, 1, o, 2), 7, entryOf(purse), body, purse, api.OK)
	isRefused(t, module(t, 1, &oracle.Oracle{}, 2), 7, entryOf(purse), body, api.ErrSeal)
}

// P11.6: bodies with one bit or one byte changed, and with a number changed: none of them opens, wherever it is looked for.
func TestChangedBodies(t *testing.T) {
	o := &oracle.Oracle{}
	m := all(t, 1, o)
	s := &scheme{}
	owners := []int{1, 2, 3, 4}
	for _, p := range some() {
		body, _ := m.Seal(p)
		s.seal(owners, p)
		for at := range body {
			for x := 1; x < 256; x++ {
				turned := slices.Clone(body)
				turned[at] ^= byte(x)
				q, e := s.open(owners, p.Card, entryOf(p), turned)
				if e == api.OK {
					t.Fatalf("P11.6: %x opens as %v", turned, q)
				}
				isRefused(t, m, p.Card, entryOf(p), turned, e)
				if q, _, e := ipe.Open(turned); e == api.OK {
					isRefused(t, m, q.Card, entryOf(q), turned, api.ErrSeal)
				}
			}
		}
	}
}

// P11.6: of two products with each other's tokens, neither opens.
func TestExchangedTokens(t *testing.T) {
	o := &oracle.Oracle{}
	m := all(t, 1, o)
	ps := some()
	for _, change := range []func(p *api.Product){
		func(p *api.Product) { p.Value++ }, func(p *api.Product) { p.Txn++ }, func(p *api.Product) { p.Act++ }, func(p *api.Product) { p.Ver++ },
		func(p *api.Product) { p.Card++ }, func(p *api.Product) { p.Id++ }, func(p *api.Product) { p.Owner++ }, func(p *api.Product) { p.Blocked = true },
		func(p *api.Product) { p.Open = true }, func(p *api.Product) { p.Zone, p.Day = 3, 4 }, func(p *api.Product) { p.Zone, p.Day = 4, 3 }, func(p *api.Product) { p.Last, p.Rides = 2, 1 },
	} {
		p := purse
		change(&p)
		ps = append(ps, p)
	}
	for i, p := range ps {
		body, _ := ipe.Body(p, api.Token(i+1))
		isSealed(t, m, p, body, api.OK)
	}
	for _, p := range ps {
		for i, q := range ps {
			body, _ := ipe.Body(p, api.Token(i+1))
			if p == q {
				isOpened(t, m, p.Card, entryOf(p), body, p, api.OK)
			} else {
				isRefused(t, m, p.Card, entryOf(p), body, api.ErrSeal)
			}
		}
	}
}

// P11.4: numbers of modules that share an oracle, with other calls between.
func TestNext(t *testing.T) {
	o := &oracle.Oracle{}
	m, other := module(t, 2, o), module(t, 2, o)
	for want := 1; want <= 1000; want++ {
		m.Seal(purse)
		m.Seal(pass)
		m.Post(api.MsgAck, 0, []byte{byte(want)})
		m.Check(api.Msg{})
		if got := m.Last(); got != want-1 {
			t.Fatalf("P11.4: Last: %d; should be %d", got, want-1)
		}
		if got, e := m.Next(); got != want || e != api.OK || m.Last() != want || m.Last() != want {
			t.Fatalf("P11.4: Next: %d, %d, Last %d; should be %d", got, e, m.Last(), want)
		}
	}
	if other.Last() != 0 {
		t.Errorf("P11.4: Last of another module: %d", other.Last())
	}
	if got, e := other.Next(); got != 1 || e != api.OK || m.Last() != 1000 {
		t.Errorf("P11.4: Next of another module: %d, %d; Last of the first one: %d", got, e, m.Last())
	}
}

// P11.4: the greatest number, and that it stays.
func TestNextIsOver(t *testing.T) {
	m := module(t, 1, &oracle.Oracle{})
	for range 1<<31 - 2 {
		m.Next()
	}
	if n, e := m.Next(); n != 1<<31-1 || e != api.OK {
		t.Fatalf("P11.4: Next: %d, %d; should be %d", n, e, 1<<31-1)
	}
	for range 3 {
		if n, e := m.Next(); n != 0 || e != api.ErrOver || m.Last() != 1<<31-1 {
			t.Errorf("P11.4: Next at the end: %d, %d, Last %d", n, e, m.Last())
		}
	}
	body, e := m.Seal(pass)
	if e != api.OK {
		t.Errorf("P11.4: Seal without numbers left: %d", e)
	}
	isOpened(t, m, pass.Card, entryOf(pass), body, pass, api.OK)
}

// P11.5: what is sealed and by which key, for each sender and receiver, of the kinds that there are and of others.
func TestPost(t *testing.T) {
	o := &oracle.Oracle{}
	var want []oracle.Minted
	for from := range 5 {
		m := module(t, from, o)
		for to := range 5 {
			for _, kind := range []api.MsgKind{1, 2, 3, 4, 5, 127, 128, 254, 255} {
				for _, body := range []string{"", "a", "\x00", "ab\x01\x02"} {
					want = append(want, oracle.Minted{Key: api.Key{Op: from, Ver: 1}, Data: string([]byte{byte(kind), byte(from), byte(to)}) + body})
					x := api.Msg{Kind: kind, From: from, To: to, Body: []byte(body), Token: api.Token(len(want))}
					isPosted(t, m, kind, to, []byte(body), x, api.OK)
					isPosted(t, m, kind, to, []byte(body), x, api.OK)
				}
			}
		}
	}
	isIssued(t, "P11.5", o, want...)
}

// P11.5: kinds and receivers that there can't be; nothing is issued for them.
func TestPostErrors(t *testing.T) {
	o := &oracle.Oracle{}
	for from := range 5 {
		m := module(t, from, o)
		for _, kind := range edges {
			for _, to := range edges {
				if kind < 1 || kind > 255 || to < 0 || to > 4 {
					isPosted(t, m, api.MsgKind(kind), to, []byte("ab"), api.Msg{}, api.ErrArg)
				}
			}
		}
	}
	isIssued(t, "P11.5", o)
}

// P11.5: each module checks what any of them posted, with each of the message's numbers at all edges.
func TestCheck(t *testing.T) {
	s := &scheme{}
	o := &oracle.Oracle{}
	for from := range 5 {
		m, other := module(t, from, o), module(t, (from+2)%5, o)
		for _, body := range []string{"", "ab"} {
			x, _ := m.Post(api.MsgBatch, 4, []byte(body))
			s.post(from, api.MsgBatch, 4, []byte(body))
			isChecked(t, m, x, api.OK)
			isChecked(t, other, x, api.OK)
			isChecked(t, module(t, from, &oracle.Oracle{}), x, api.ErrSeal)
			for _, n := range edges {
				kind, sender, receiver, token := x, x, x, x
				kind.Kind, sender.From, receiver.To, token.Token = api.MsgKind(n), n, n, api.Token(n)
				for _, y := range []api.Msg{kind, sender, receiver, token} {
					isChecked(t, m, y, s.check(y))
					isChecked(t, other, y, s.check(y))
				}
			}
		}
	}
	if o.Len() != 10 {
		t.Errorf("P11.5: Check issued seals: %d", o.Len())
	}
}

// P11.5: numbers that can't be are told ahead of a seal that isn't right, and also where the seal would be right for their lowest bytes.
func TestCheckOrder(t *testing.T) {
	o := &oracle.Oracle{}
	m := module(t, 1, o)
	x, _ := m.Post(1, 1, []byte("a"))
	for _, turn := range []int{256, 1 << 16, 1 << 32, -256, math.MinInt} {
		kind, from, to := x, x, x
		kind.Kind += api.MsgKind(turn)
		from.From += turn
		to.To += turn
		for _, y := range []api.Msg{kind, from, to} {
			isChecked(t, m, y, api.ErrArg)
			y.Token = 77
			isChecked(t, m, y, api.ErrArg)
		}
	}
	isChecked(t, m, api.Msg{}, api.ErrArg)
	isChecked(t, m, api.Msg{Kind: 1}, api.ErrSeal)
	isChecked(t, m, api.Msg{Kind: 255, From: 4, To: 4}, api.ErrSeal)
}

// P11.6: seals of other data and of other keys aren't a message's.
func TestForgedMessages(t *testing.T) {
	x := api.Msg{Kind: 2, From: 3, To: 1, Body: []byte("ab")}
	right := api.Key{Op: 3, Ver: 1}
	for _, forge := range []func(o *oracle.Oracle) api.Token{
		func(o *oracle.Oracle) api.Token { return o.Mint(right, []byte("ab")) },
		func(o *oracle.Oracle) api.Token { return o.Mint(right, []byte("\x02\x03\x01")) },
		func(o *oracle.Oracle) api.Token { return o.Mint(right, []byte("\x02\x03\x01a")) },
		func(o *oracle.Oracle) api.Token { return o.Mint(right, []byte("\x02\x03\x01ab\x00")) },
		func(o *oracle.Oracle) api.Token { return o.Mint(right, []byte("\x02\x01\x03ab")) },
		func(o *oracle.Oracle) api.Token { return o.Mint(right, []byte("\x03\x02\x01ab")) },
		func(o *oracle.Oracle) api.Token { return o.Mint(right, []byte("ab\x02\x03\x01")) },
		func(o *oracle.Oracle) api.Token { return o.Mint(right, []byte("\x02\x03\x01ab")) + 1 },
		func(o *oracle.Oracle) api.Token { return o.Mint(api.Key{Op: 3, Ver: 2}, []byte("\x02\x03\x01ab")) },
		func(o *oracle.Oracle) api.Token { return o.Mint(api.Key{Op: 1, Ver: 1}, []byte("\x02\x03\x01ab")) },
		func(o *oracle.Oracle) api.Token { return o.Mint(api.Key{Ver: 1}, []byte("\x02\x03\x01ab")) },
		func(o *oracle.Oracle) api.Token {
			return o.Mint(api.Key{Op: 3, Type: 1, Ver: 1}, []byte("\x02\x03\x01ab"))
		},
	} {
		o := &oracle.Oracle{}
		x.Token = forge(o)
		isChecked(t, module(t, 0, o), x, api.ErrSeal)
	}
	o := &oracle.Oracle{}
	x.Token = o.Mint(right, []byte("\x02\x03"), []byte("\x01a"), []byte("b"))
	isChecked(t, module(t, 0, o), x, api.OK)
}

// P11.6: a message's numbers and its body don't run together, nor does a product's seal serve a message.
func TestMessagesApart(t *testing.T) {
	o := &oracle.Oracle{}
	m := all(t, 2, o)
	x, _ := m.Post(1, 1, []byte{1, 1})
	for _, body := range [][]byte{nil, {1}, {1, 1, 1}, {1, 1, 0}, {0, 1, 1}, {2, 1}} {
		y := x
		y.Body = body
		isChecked(t, m, y, api.ErrSeal)
	}
	form := encoded(purse)
	m.Seal(purse)
	isChecked(t, m, api.Msg{Kind: api.MsgKind(form[0]), From: int(form[2]), To: int(form[3]), Body: form[3:], Token: 2}, api.ErrSeal)
}

// play is calls on the modules of a scheme: m is the one that is called, owners are those that it accepts; bodies and msgs are what was sealed.
type play struct {
	t      *testing.T
	d      dice
	s      scheme
	m      *isam.Module
	owners []int
	bodies [][]byte
	msgs   []api.Msg
}

// product is one of few, so that most come again.
func (p *play) product() api.Product {
	ps := some()
	x := ps[p.d.below(len(ps))]
	switch p.d.below(6) {
	case 0:
		x.Owner = p.d.below(6)
	case 1:
		x.Card, x.Id = 1+p.d.below(2), 1+p.d.below(2)
	case 2:
		x.Value = p.d.below(3) - 1
	}
	return x
}

func (p *play) seal() {
	x := p.product()
	body, e := p.s.seal(p.owners, x)
	isSealed(p.t, p.m, x, body, e)
	if e == api.OK {
		p.bodies = append(p.bodies, body)
	}
}

func (p *play) open() {
	if len(p.bodies) == 0 {
		return
	}
	body := slices.Clone(p.bodies[p.d.below(len(p.bodies))])
	x, _, _ := ipe.Open(body)
	switch p.d.below(5) {
	case 0:
		x = p.product()
	case 1:
		body[p.d.below(len(body))] ^= 1 << p.d.below(8)
	case 2:
		if forged, e := ipe.Body(p.product(), api.Token(1+p.d.below(9))); e == api.OK {
			body = forged
			x, _, _ = ipe.Open(body)
		}
	}
	want, e := p.s.open(p.owners, x.Card, entryOf(x), body)
	isOpened(p.t, p.m, x.Card, entryOf(x), body, want, e)
}

func (p *play) post() {
	kind, to, body := api.MsgKind(p.d.below(4)), p.d.below(6), []byte("ab")[:p.d.below(3)]
	x, e := p.s.post(p.m.Op(), kind, to, body)
	isPosted(p.t, p.m, kind, to, body, x, e)
	if e == api.OK {
		p.msgs = append(p.msgs, x)
	}
}

func (p *play) check() {
	if len(p.msgs) == 0 {
		return
	}
	x := p.msgs[p.d.below(len(p.msgs))]
	switch p.d.below(6) {
	case 0:
		x.Kind = api.MsgKind(p.d.below(4))
	case 1:
		x.From = p.d.below(6)
	case 2:
		x.To = p.d.below(6)
	case 3:
		x.Body = []byte("abc")[:p.d.below(4)]
	case 4:
		x.Token = api.Token(p.d.below(len(p.s.sealed) + 2))
	}
	isChecked(p.t, p.m, x, p.s.check(x))
}

// Rows of calls on the modules of a scheme, held against the scheme told another way.
func TestByAnotherWay(t *testing.T) {
	for seed := range 60 {
		o := &oracle.Oracle{}
		p := &play{t: t, d: dice(seed)}
		var modules []*isam.Module
		var owners [][]int
		for op := range 5 {
			given := []int{1 + p.d.below(4), 1 + p.d.below(4)}[:p.d.below(3)]
			modules = append(modules, module(t, op, o, given...))
			owners = append(owners, append(slices.Clone(given), op))
		}
		for range 200 {
			at := p.d.below(5)
			p.m, p.owners = modules[at], owners[at]
			[]func(){p.seal, p.open, p.open, p.post, p.check, p.check}[p.d.below(6)]()
			if o.Len() != len(p.s.sealed) {
				t.Fatalf("P11.6: %d seals; should be %d", o.Len(), len(p.s.sealed))
			}
		}
	}
}

// P11.6: arguments stay, their spare capacity too, and nobody keeps them.
func TestArguments(t *testing.T) {
	o := &oracle.Oracle{}
	given := []int{2, 3, 4, 4}
	m := module(t, 1, o, given[:2]...)
	if !slices.Equal(given, []int{2, 3, 4, 4}) {
		t.Errorf("P11.6: New changed its owners to %v", given)
	}
	copy(given, []int{4, 4})
	if !m.Accepts(2) || !m.Accepts(3) || m.Accepts(4) {
		t.Error("P11.6: New kept its owners")
	}
	sealed, _ := m.Seal(purse)
	room := append(slices.Clone(sealed), 7, 7, 7)
	was := slices.Clone(room)
	isOpened(t, m, 7, entryOf(purse), room[:64], purse, api.OK)
	if !bytes.Equal(room, was) {
		t.Errorf("P11.6: Open changed %x to %x", was, room)
	}
	scribble(room)
	isOpened(t, m, 7, entryOf(purse), sealed, purse, api.OK)

	whole := []byte("abcdef")
	x, _ := m.Post(1, 0, whole[:2])
	y := x
	y.Body = whole[:2]
	isChecked(t, m, y, api.OK)
	if string(whole) != "abcdef" {
		t.Errorf("P11.6: a body's memory changed to %q", whole)
	}
	scribble(whole)
	isChecked(t, m, x, api.OK)
	isChecked(t, m, y, api.ErrSeal)
}

// P11.6: results are nobody else's.
func TestResults(t *testing.T) {
	o := &oracle.Oracle{}
	m := module(t, 1, o, 2)
	first, _ := m.Seal(purse)
	second, _ := m.Seal(purse)
	want := slices.Clone(second)
	scribble(first)
	if !bytes.Equal(second, want) {
		t.Error("P11.6: two bodies share memory")
	}
	isSealed(t, m, purse, want, api.OK)
	isOpened(t, m, 7, entryOf(purse), want, purse, api.OK)

	for _, given := range [][]byte{{}, []byte("ab"), []byte("abcdef")[:2]} {
		was := slices.Clone(given[:cap(given)])
		x, _ := m.Post(1, 0, given)
		y, _ := m.Post(1, 0, given)
		scribble(x.Body)
		if !bytes.Equal(given[:cap(given)], was) {
			t.Errorf("P11.6: a message's body is the argument: %x", given)
		}
		isChecked(t, m, y, api.OK)
		isPosted(t, m, 1, 0, given, y, api.OK)
	}
}

// P1: whatever is given, every call ends and does not panic. Very long bodies are not told in the messages.
func TestNoPanic(t *testing.T) {
	o := &oracle.Oracle{}
	m := all(t, 1, o)
	for _, n := range edges {
		for _, k := range edges {
			m.Seal(api.Product{Kind: api.Kind(n), Owner: k, Id: n, Card: k, Ver: n, Value: k, Last: n, Rides: k, Zone: n, Day: k, Txn: n, Act: k})
			m.Open(n, api.Entry{Kind: api.Kind(k), Owner: n, Id: k, Slot: n}, make([]byte, 64))
			m.Post(api.MsgKind(n), k, nil)
			m.Check(api.Msg{Kind: api.MsgKind(n), From: k, To: n, Token: api.Token(k)})
		}
	}
	long := bytes.Repeat([]byte{224}, 1<<20)
	if p, e := m.Open(7, entryOf(purse), long); p != (api.Product{}) || e != api.ErrLong {
		t.Errorf("P1: Open of very many bytes: %v, %d", p, e)
	}
	x, e := m.Post(255, 4, long)
	if e != api.OK || !bytes.Equal(x.Body, long) || m.Check(x) != api.OK {
		t.Errorf("P1: Post of very many bytes: %d", e)
	}
	x.Body[1<<20-1]++
	if e := m.Check(x); e != api.ErrSeal {
		t.Errorf("P1: Check of very many bytes, the last one changed: %d", e)
	}
}
