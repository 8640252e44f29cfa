package lists_test

import (
	"bytes"
	"encoding/binary"
	"math"
	"slices"
	"testing"

	"farebox/api"
	"farebox/lists"
)

// edges are numbers at which something might turn.
var edges = []int{math.MinInt, math.MinInt + 1, math.MinInt32, -65535, -2, -1, 0, 1, 2, 3, 4, 5, 6, 255, 256, 257, 65534, 65535, 65536, 65537, 1<<31 - 1, 1 << 31, 1<<31 + 1, 1<<32 - 1, 1 << 32, 1<<32 + 1, 1 << 40, math.MaxInt - 1, math.MaxInt}

// versioned is what both lists are.
type versioned interface {
	Version() int
	Items() []api.Item
	Apply(d lists.Delta) api.Errno
}

func card(card int) api.Item {
	return api.Item{Card: card}
}

func product(card, owner, id int) api.Item {
	return api.Item{Card: card, Owner: owner, Id: id}
}

func action(card, owner, id, number, amount int) api.Item {
	return api.Item{Card: card, Owner: owner, Id: id, Number: number, Amount: amount}
}

// cards are the items of so many cards, from first on.
func cards(first, count int) []api.Item {
	var xs []api.Item
	for i := range count {
		xs = append(xs, card(first+i))
	}
	return xs
}

// actions are so many actions of one product, the number first first.
func actions(first, count int) []api.Item {
	var xs []api.Item
	for i := range count {
		xs = append(xs, action(0, 1, 1, first+i, 5))
	}
	return xs
}

// model is what a list should be, by another way: what may be said of each number stands in a table, and items are taken out and put in one at a time.
type model struct {
	act     bool
	version int
	row     []api.Item
}

// limits are an item's least and greatest numbers, by field: Card, Owner, Id, Number, Amount.
func (m *model) limits(x api.Item) [5][2]int {
	switch {
	case m.act:
		return [5][2]int{{0, 65535}, {1, 4}, {1, 65535}, {1, 65535}, {0, 2147483648}}
	case x.Owner == 0:
		return [5][2]int{{1, 65535}, {0, 0}, {0, 0}, {0, 0}, {0, 0}}
	}
	return [5][2]int{{0, 65535}, {1, 4}, {1, 65535}, {0, 0}, {0, 0}}
}

func (m *model) valid(x api.Item) bool {
	for i, n := range []int{x.Card, x.Owner, x.Id, x.Number, x.Amount} {
		if limit := m.limits(x)[i]; n < limit[0] || n > limit[1] {
			return false
		}
	}
	return true
}

func (m *model) apply(d lists.Delta) api.Errno {
	if d.To <= m.version {
		return api.ErrOld
	}
	if d.To-1 != m.version {
		return api.ErrState
	}
	for _, x := range append(slices.Clone(d.Off), d.Add...) {
		if !m.valid(x) {
			return api.ErrArg
		}
	}
	row := slices.Clone(m.row)
	for _, x := range d.Off {
		if at := slices.Index(row, x); at >= 0 {
			row = slices.Delete(row, at, at+1)
		}
	}
	for _, x := range d.Add {
		if slices.Index(row, x) < 0 {
			row = append(row, x)
		}
	}
	if len(row) > 64 {
		return api.ErrFull
	}
	m.version, m.row = d.To, row
	return api.OK
}

func (m *model) has(card, owner, id int) bool {
	for _, x := range m.row {
		ofCard := x.Owner == 0 && x.Id == 0 && x.Card == card
		ofProduct := x.Owner == owner && x.Id == id && (x.Card == 0 || x.Card == card)
		if ofCard || ofProduct {
			return true
		}
	}
	return false
}

// after goes from each number to the next greater one that the row has.
func (m *model) after(card, owner, id, act int) []api.Item {
	var xs []api.Item
	for {
		least := -1
		for i, x := range m.row {
			if x.Owner != owner || x.Id != id || x.Card != 0 && x.Card != card || x.Number <= act {
				continue
			}
			if least < 0 || x.Number < m.row[least].Number {
				least = i
			}
		}
		if least < 0 {
			return xs
		}
		xs = append(xs, m.row[least])
		act = m.row[least].Number
	}
}

// encoded is a delta's encoding, by another way: number by number.
func encoded(d lists.Delta) []byte {
	b := binary.BigEndian.AppendUint32(nil, uint32(d.To))
	b = append(b, byte(len(d.Add)), byte(len(d.Off)))
	for _, x := range append(slices.Clone(d.Add), d.Off...) {
		for _, n := range []int{x.Card, x.Owner, x.Id, x.Number, x.Amount} {
			b = binary.BigEndian.AppendUint32(b, uint32(n))
		}
	}
	return b
}

// decoded is what Get should tell, by another way.
func decoded(b []byte) (lists.Delta, api.Errno) {
	if len(b) < 6 {
		return lists.Delta{}, api.ErrShort
	}
	to := binary.BigEndian.Uint32(b)
	if to == 0 || to >= 1<<31 || b[4] > 64 || b[5] > 64 {
		return lists.Delta{}, api.ErrForm
	}
	adds, offs := int(b[4]), int(b[5])
	switch rest := len(b) - 6; {
	case rest < 20*(adds+offs):
		return lists.Delta{}, api.ErrShort
	case rest > 20*(adds+offs):
		return lists.Delta{}, api.ErrTrail
	}
	var xs []api.Item
	for at := 6; at < len(b); at += 20 {
		var ns [5]int
		for i := range ns {
			ns[i] = int(binary.BigEndian.Uint32(b[at+4*i:]))
			if ns[i] > 1<<31 {
				return lists.Delta{}, api.ErrForm
			}
		}
		xs = append(xs, action(ns[0], ns[1], ns[2], ns[3], ns[4]))
	}
	return lists.Delta{To: int(to), Add: xs[:adds], Off: xs[adds:]}, api.OK
}

// dice are numbers made by a fixed rule.
type dice uint64

func (d *dice) below(n int) int {
	*d = *d*6364136223846793005 + 1442695040888963407
	return int(uint64(*d)>>33) % n
}

// item is one of few, so that most come again; one in twenty is not valid.
func (d *dice) item(act bool) api.Item {
	x := product(d.below(3), 1+d.below(2), 1+d.below(2))
	if act {
		x.Number, x.Amount = 1+d.below(6), d.below(2)
	} else if d.below(3) == 0 {
		x = card(1 + d.below(4))
	}
	if d.below(20) == 0 {
		fields := []*int{&x.Card, &x.Owner, &x.Id, &x.Number, &x.Amount}
		*fields[d.below(5)] = edges[d.below(len(edges))]
	}
	return x
}

func (d *dice) items(act bool, most int) []api.Item {
	var xs []api.Item
	for range d.below(most + 1) {
		xs = append(xs, d.item(act))
	}
	return xs
}

func sameDelta(x, y lists.Delta) bool {
	return x.To == y.To && slices.Equal(x.Add, y.Add) && slices.Equal(x.Off, y.Off)
}

func isApplied(t *testing.T, l versioned, d lists.Delta, want api.Errno) {
	t.Helper()
	version, items := l.Version(), l.Items()
	if got := l.Apply(d); got != want {
		t.Errorf("P12.1: Apply(%v): %d; should be %d", d, got, want)
	}
	if want != api.OK && (l.Version() != version || !slices.Equal(l.Items(), items)) {
		t.Errorf("P12.1: Apply(%v) changed the list to %d %v", d, l.Version(), l.Items())
	}
}

func isList(t *testing.T, l versioned, version int, items ...api.Item) {
	t.Helper()
	if got := l.Version(); got != version {
		t.Errorf("P12.1: Version: %d; should be %d", got, version)
	}
	if got := l.Items(); !slices.Equal(got, items) {
		t.Errorf("P12.1: Items: %v; should be %v", got, items)
	}
}

func isHad(t *testing.T, h *lists.Hot, card, owner, id int, want bool) {
	t.Helper()
	if got := h.Has(card, owner, id); got != want {
		t.Errorf("P12.2: Has(%d, %d, %d): %v", card, owner, id, got)
	}
}

func isFor(t *testing.T, a *lists.Act, card, owner, id, act int, want ...api.Item) {
	t.Helper()
	if got := slices.Collect(a.For(card, owner, id, act)); !slices.Equal(got, want) {
		t.Errorf("P12.3: For(%d, %d, %d, %d): %v; should be %v", card, owner, id, act, got, want)
	}
}

func isPut(t *testing.T, d lists.Delta, want []byte, wantE api.Errno) {
	t.Helper()
	if got, e := lists.Put(d); !bytes.Equal(got, want) || e != wantE {
		t.Errorf("P12.4: Put(%v): %x, %d; should be %x, %d", d, got, e, want, wantE)
	}
}

func isGot(t *testing.T, b []byte, want lists.Delta, wantE api.Errno) {
	t.Helper()
	if got, e := lists.Get(b); !sameDelta(got, want) || e != wantE {
		t.Errorf("P12.4: Get(%x): %v, %d; should be %v, %d", b, got, e, want, wantE)
	}
}

func isRefused(t *testing.T, b []byte, wantE api.Errno) {
	t.Helper()
	isGot(t, b, lists.Delta{}, wantE)
}

func hot(t *testing.T, items ...api.Item) *lists.Hot {
	t.Helper()
	h := &lists.Hot{}
	isApplied(t, h, lists.Delta{To: 1, Add: items}, api.OK)
	return h
}

func act(t *testing.T, items ...api.Item) *lists.Act {
	t.Helper()
	a := &lists.Act{}
	isApplied(t, a, lists.Delta{To: 1, Add: items}, api.OK)
	return a
}

func TestExamples(t *testing.T) {
	var h lists.Hot
	isApplied(t, &h, lists.Delta{To: 1, Add: []api.Item{card(7)}}, api.OK)
	isApplied(t, &h, lists.Delta{To: 1}, api.ErrOld)
	isApplied(t, &h, lists.Delta{To: 3}, api.ErrState)
	isHad(t, &h, 7, 2, 9, true)
	isHad(t, &h, 8, 2, 9, false)
	isApplied(t, &h, lists.Delta{To: 2, Add: []api.Item{product(0, 2, 9)}, Off: []api.Item{card(7)}}, api.OK)
	isHad(t, &h, 8, 2, 9, true)
	four, two := action(0, 2, 9, 4, 10), action(0, 2, 9, 2, 5)
	a := act(t, four, two)
	isFor(t, a, 7, 2, 9, 1, two, four)
	isFor(t, a, 7, 2, 9, 3, four)
}

func TestNoItems(t *testing.T) {
	var h lists.Hot
	var a lists.Act
	isList(t, &h, 0)
	isList(t, &a, 0)
	for _, n := range edges {
		isHad(t, &h, n, n, n, false)
		isHad(t, &h, n, 0, 0, false)
		isFor(t, &a, n, n, n, n)
		isFor(t, &a, n, 0, 0, -1)
	}
	for to := 1; to <= 3; to++ {
		isApplied(t, &h, lists.Delta{To: to}, api.OK)
		isApplied(t, &a, lists.Delta{To: to, Add: []api.Item{}, Off: []api.Item{}}, api.OK)
		isList(t, &h, to)
		isList(t, &a, to)
	}
}

// P12.1: each version but the next one, also with items that are not valid or too many.
func TestVersions(t *testing.T) {
	wrong, many := []api.Item{{}}, append(cards(1, 65), actions(1, 65)...)
	for version := range 4 {
		for _, l := range []versioned{&lists.Hot{}, &lists.Act{}} {
			for to := range version {
				isApplied(t, l, lists.Delta{To: to + 1}, api.OK)
			}
			for _, to := range append(slices.Clone(edges), version-1, version, version+2) {
				want := api.ErrState
				if to <= version {
					want = api.ErrOld
				}
				if to == version+1 {
					want = api.ErrArg
				}
				isApplied(t, l, lists.Delta{To: to, Add: wrong}, want)
				isApplied(t, l, lists.Delta{To: to, Off: wrong}, want)
				isApplied(t, l, lists.Delta{To: to, Add: many}, want)
				if to != version+1 {
					isApplied(t, l, lists.Delta{To: to}, want)
				}
			}
			isList(t, l, version)
			isApplied(t, l, lists.Delta{To: version + 1}, api.OK)
			isList(t, l, version+1)
		}
	}
}

// P12.1: each number of an item at each edge, alone and with another one, in Add and in Off.
func TestValid(t *testing.T) {
	base := []api.Item{card(7), product(0, 2, 9), product(7, 2, 9), action(0, 2, 9, 1, 0), action(7, 2, 9, 65535, 1<<31), action(7, 0, 0, 1, 1), {}}
	for _, x := range base {
		for i := range 5 {
			for j := range i + 1 {
				for _, n := range edges {
					y := x
					fields := []*int{&y.Card, &y.Owner, &y.Id, &y.Number, &y.Amount}
					*fields[i], *fields[j] = n, n
					isValid(t, y)
				}
			}
		}
	}
}

// isValid holds what the lists say of an item against the model.
func isValid(t *testing.T, x api.Item) {
	t.Helper()
	for _, act := range []bool{false, true} {
		fresh := func() versioned {
			if act {
				return &lists.Act{}
			}
			return &lists.Hot{}
		}
		right := (&model{}).apply
		other := card(1)
		if act {
			right, other = (&model{act: true}).apply, action(0, 1, 1, 1, 0)
		}
		want := right(lists.Delta{To: 1, Add: []api.Item{x}})
		isApplied(t, fresh(), lists.Delta{To: 1, Add: []api.Item{x}}, want)
		isApplied(t, fresh(), lists.Delta{To: 1, Off: []api.Item{x}}, want)
		isApplied(t, fresh(), lists.Delta{To: 1, Add: []api.Item{other, x}, Off: []api.Item{other}}, want)
		isApplied(t, fresh(), lists.Delta{To: 1, Add: []api.Item{other}, Off: []api.Item{other, x}}, want)
	}
}

// The edges of what is valid, told one by one.
func TestValidEdges(t *testing.T) {
	for _, x := range []api.Item{card(1), card(65535), product(0, 1, 1), product(65535, 4, 65535)} {
		isList(t, hot(t, x), 1, x)
	}
	for _, x := range []api.Item{{}, card(65536), card(-1), product(0, 0, 1), product(7, 0, 1), product(0, 1, 0), product(7, 1, 0), product(-1, 1, 1), product(65536, 1, 1), product(0, 5, 1), product(0, -1, 1), product(0, 1, 65536), product(0, 1, -1), {Card: 7, Number: 1}, {Card: 7, Amount: 1}, action(0, 1, 1, 1, 0), action(0, 1, 1, 0, 1), action(0, 1, 1, -1, 0), action(0, 1, 1, 0, -1)} {
		isApplied(t, &lists.Hot{}, lists.Delta{To: 1, Add: []api.Item{x}}, api.ErrArg)
		isApplied(t, &lists.Hot{}, lists.Delta{To: 1, Off: []api.Item{x}}, api.ErrArg)
	}
	for _, x := range []api.Item{action(0, 1, 1, 1, 0), action(65535, 4, 65535, 65535, 1<<31)} {
		isList(t, act(t, x), 1, x)
	}
	for _, x := range []api.Item{{}, card(7), {Card: 7, Number: 1, Amount: 1}, product(0, 1, 1), action(0, 1, 1, 0, 1), action(0, 1, 1, 65536, 0), action(0, 1, 1, -1, 0), action(0, 1, 1, 1, -1), action(0, 1, 1, 1, 1<<31+1), action(0, 5, 1, 1, 0), action(0, 1, 0, 1, 0), action(0, 0, 1, 1, 0), action(0, 1, 65536, 1, 0), action(65536, 1, 1, 1, 0), action(-1, 1, 1, 1, 0)} {
		isApplied(t, &lists.Act{}, lists.Delta{To: 1, Add: []api.Item{x}}, api.ErrArg)
		isApplied(t, &lists.Act{}, lists.Delta{To: 1, Off: []api.Item{x}}, api.ErrArg)
	}
}

// P12.1: what goes, what comes, and in which order.
func TestOrder(t *testing.T) {
	a, b, c, d := card(1), product(0, 1, 1), product(1, 1, 1), card(2)
	for _, x := range []struct {
		add, off, want []api.Item
	}{
		{nil, nil, []api.Item{a, b, c}},
		{[]api.Item{d}, nil, []api.Item{a, b, c, d}},
		{[]api.Item{d, d, d}, nil, []api.Item{a, b, c, d}},
		{[]api.Item{c, a, d, b}, nil, []api.Item{a, b, c, d}},
		{nil, []api.Item{d}, []api.Item{a, b, c}},
		{nil, []api.Item{b}, []api.Item{a, c}},
		{nil, []api.Item{b, b}, []api.Item{a, c}},
		{nil, []api.Item{c, a}, []api.Item{b}},
		{nil, []api.Item{c, b, a, d}, nil},
		{[]api.Item{a}, []api.Item{a}, []api.Item{b, c, a}},
		{[]api.Item{b, a, b}, []api.Item{a, b}, []api.Item{c, b, a}},
		{[]api.Item{d}, []api.Item{d}, []api.Item{a, b, c, d}},
		{[]api.Item{d, a}, []api.Item{b}, []api.Item{a, c, d}},
	} {
		h := hot(t, a, b, c)
		isApplied(t, h, lists.Delta{To: 2, Add: x.add, Off: x.off}, api.OK)
		isList(t, h, 2, x.want...)
	}
}

// P12.1: items are the same only if each number is.
func TestEachNumberDiffers(t *testing.T) {
	base := action(1, 1, 1, 1, 1)
	all := []api.Item{base, action(2, 1, 1, 1, 1), action(1, 2, 1, 1, 1), action(1, 1, 2, 1, 1), action(1, 1, 1, 2, 1), action(1, 1, 1, 1, 2)}
	isList(t, act(t, all...), 1, all...)
	isList(t, act(t, append(all, all...)...), 1, all...)
	for i, x := range all {
		a := act(t, all...)
		isApplied(t, a, lists.Delta{To: 2, Off: []api.Item{x}}, api.OK)
		isList(t, a, 2, slices.Delete(slices.Clone(all), i, i+1)...)
	}
}

// P12.1: 64 items and one more, with some that are there already, and some that go.
func TestFull(t *testing.T) {
	isList(t, hot(t, cards(1, 64)...), 1, cards(1, 64)...)
	isApplied(t, &lists.Hot{}, lists.Delta{To: 1, Add: cards(1, 65)}, api.ErrFull)
	isApplied(t, &lists.Hot{}, lists.Delta{To: 1, Add: cards(1, 65), Off: cards(1, 65)}, api.ErrFull)
	isApplied(t, &lists.Hot{}, lists.Delta{To: 1, Add: append(cards(1, 65), api.Item{})}, api.ErrArg)
	isApplied(t, &lists.Hot{}, lists.Delta{To: 1, Add: cards(1, 65), Off: []api.Item{{}}}, api.ErrArg)
	isList(t, hot(t, slices.Repeat(cards(1, 64), 3)...), 1, cards(1, 64)...)
	for _, x := range []struct {
		add, off []api.Item
		want     api.Errno
		items    []api.Item
	}{
		{cards(65, 1), nil, api.ErrFull, nil},
		{cards(65, 1), cards(65, 1), api.ErrFull, nil},
		{cards(63, 3), nil, api.ErrFull, nil},
		{cards(1, 64), nil, api.OK, cards(1, 64)},
		{cards(65, 1), cards(1, 1), api.OK, cards(2, 64)},
		{cards(65, 2), cards(1, 1), api.ErrFull, nil},
		{cards(1, 65), cards(1, 1), api.ErrFull, nil},
		{cards(1, 64), cards(1, 64), api.OK, cards(1, 64)},
		{cards(101, 64), cards(1, 64), api.OK, cards(101, 64)},
		{cards(101, 65), cards(1, 64), api.ErrFull, nil},
		{nil, cards(1, 100), api.OK, nil},
	} {
		h := hot(t, cards(1, 64)...)
		isApplied(t, h, lists.Delta{To: 2, Add: x.add, Off: x.off}, x.want)
		if x.want == api.OK {
			isList(t, h, 2, x.items...)
		}
	}
	a := act(t, actions(1, 64)...)
	isApplied(t, a, lists.Delta{To: 2, Add: actions(65, 1)}, api.ErrFull)
	isApplied(t, a, lists.Delta{To: 2, Add: actions(65, 1), Off: actions(64, 1)}, api.OK)
	isList(t, a, 2, append(actions(1, 63), actions(65, 1)...)...)
}

// P12.2: by the card, by the product on any card, and by the product on its card.
func TestHas(t *testing.T) {
	h := hot(t, card(7), product(0, 2, 9), product(3, 1, 5))
	for c := range 10 {
		for owner := range 6 {
			for id := range 12 {
				want := c == 7 || owner == 2 && id == 9 || c == 3 && owner == 1 && id == 5
				isHad(t, h, c, owner, id, want)
			}
		}
	}
	for _, n := range edges {
		isHad(t, h, 7, n, n, true)
		isHad(t, h, n, 2, 9, true)
		isHad(t, h, n, 0, 0, false)
		isHad(t, h, n, 2, 8, false)
		isHad(t, h, 8, n, 9, n == 2)
	}
}

// P12.2: whether a product is on a card's own list doesn't hang on the card's other products.
func TestHasAfterApply(t *testing.T) {
	h := hot(t, product(7, 2, 9))
	isHad(t, h, 7, 2, 9, true)
	isHad(t, h, 7, 2, 10, false)
	isHad(t, h, 7, 9, 2, false)
	isHad(t, h, 7, 0, 0, false)
	isHad(t, h, 0, 2, 9, false)
	isApplied(t, h, lists.Delta{To: 2, Off: []api.Item{product(0, 2, 9)}}, api.OK)
	isHad(t, h, 7, 2, 9, true)
	isApplied(t, h, lists.Delta{To: 3, Off: []api.Item{product(7, 2, 9)}, Add: []api.Item{product(8, 2, 9)}}, api.OK)
	isHad(t, h, 7, 2, 9, false)
	isHad(t, h, 8, 2, 9, true)
}

// P12.3: which items, in which order, and the first of several.
func TestFor(t *testing.T) {
	xs := []api.Item{
		action(0, 2, 9, 4, 10),
		action(7, 2, 9, 2, 5),
		action(0, 2, 9, 4, 1),
		action(7, 2, 9, 4, 2),
		action(0, 2, 9, 2, 6),
		action(8, 2, 9, 3, 7),
		action(0, 2, 8, 1, 8),
		action(0, 1, 9, 1, 9),
		action(0, 2, 9, 65535, 0),
	}
	a := act(t, xs...)
	isFor(t, a, 7, 2, 9, 0, xs[1], xs[0], xs[8])
	isFor(t, a, 7, 2, 9, 1, xs[1], xs[0], xs[8])
	isFor(t, a, 7, 2, 9, 2, xs[0], xs[8])
	isFor(t, a, 7, 2, 9, 3, xs[0], xs[8])
	isFor(t, a, 7, 2, 9, 4, xs[8])
	isFor(t, a, 7, 2, 9, 65534, xs[8])
	isFor(t, a, 7, 2, 9, 65535)
	isFor(t, a, 8, 2, 9, 0, xs[4], xs[5], xs[0], xs[8])
	isFor(t, a, 1, 2, 9, 0, xs[4], xs[0], xs[8])
	isFor(t, a, 0, 2, 9, 0, xs[4], xs[0], xs[8])
	isFor(t, a, 7, 2, 8, 0, xs[6])
	isFor(t, a, 7, 1, 9, 0, xs[7])
	isFor(t, a, 7, 1, 8, 0)
	isFor(t, a, 7, 9, 2, 0)
	isFor(t, a, 7, 0, 0, 0)
	isFor(t, a, 7, 2, 9, math.MinInt, xs[1], xs[0], xs[8])
	isFor(t, a, 7, 2, 9, math.MaxInt)
	isList(t, a, 1, xs...)
}

// P12.3: of items with one number the list's first one, however many there are and in which order they were put in.
func TestForFirst(t *testing.T) {
	var xs []api.Item
	for i := range 64 {
		xs = append(xs, action(i%2*7, 2, 9, 1+(64-i)/8, i))
	}
	m := model{row: xs}
	a := act(t, xs...)
	for c := range 8 {
		for from := range 10 {
			isFor(t, a, c, 2, 9, from, m.after(c, 2, 9, from)...)
		}
	}
	if got := len(m.after(7, 2, 9, 0)); got != 9 {
		t.Errorf("P12.3: %d items", got)
	}
}

// P12.3: what a sequence yields is what there was when For was called.
func TestForAsItWas(t *testing.T) {
	one, two, three := action(0, 1, 1, 1, 1), action(0, 1, 1, 2, 2), action(0, 1, 1, 3, 3)
	var a lists.Act
	none := a.For(7, 1, 1, 0)
	isApplied(t, &a, lists.Delta{To: 1, Add: []api.Item{two, one}}, api.OK)
	both := a.For(7, 1, 1, 0)
	isApplied(t, &a, lists.Delta{To: 2, Add: []api.Item{three}, Off: []api.Item{two}}, api.OK)
	for range 2 {
		if got := slices.Collect(none); len(got) != 0 {
			t.Errorf("P12.3: of none: %v", got)
		}
		if got := slices.Collect(both); !slices.Equal(got, []api.Item{one, two}) {
			t.Errorf("P12.3: of two: %v", got)
		}
	}
	isFor(t, &a, 7, 1, 1, 0, one, three)
	turns := 0
	for x := range a.For(7, 1, 1, 0) {
		turns++
		isApplied(t, &a, lists.Delta{To: 2 + turns, Off: []api.Item{x}, Add: []api.Item{action(0, 1, 1, 10+turns, 0)}}, api.OK)
	}
	if turns != 2 {
		t.Errorf("P12.3: %d turns", turns)
	}
	isFor(t, &a, 7, 1, 1, 0, action(0, 1, 1, 11, 0), action(0, 1, 1, 12, 0))
}

func TestForStopsAndNests(t *testing.T) {
	all := act(t, actions(1, 3)...).For(7, 1, 1, 0)
	for stop := 1; stop <= 3; stop++ {
		turns := 0
		for x := range all {
			turns++
			if x.Number != turns {
				t.Errorf("P12.3: the number %d at turn %d", x.Number, turns)
			}
			if turns == stop {
				break
			}
		}
		if turns != stop {
			t.Errorf("P12.3: %d turns; should be %d", turns, stop)
		}
	}
	pairs := []int{}
	for x := range all {
		for y := range all {
			pairs = append(pairs, 10*x.Number+y.Number)
		}
	}
	if want := []int{11, 12, 13, 21, 22, 23, 31, 32, 33}; !slices.Equal(pairs, want) {
		t.Errorf("P12.3: nested: %v", pairs)
	}
}

func TestPut(t *testing.T) {
	isPut(t, lists.Delta{To: 1}, []byte{0, 0, 0, 1, 0, 0}, api.OK)
	isPut(t, lists.Delta{To: 1<<31 - 1}, []byte{0x7F, 0xFF, 0xFF, 0xFF, 0, 0}, api.OK)
	isPut(t, lists.Delta{To: 0x01020304, Add: []api.Item{action(1, 2, 3, 4, 1<<31)}, Off: []api.Item{action(0x05060708, 0, 1<<31, 9, 10), {}}}, []byte{
		1, 2, 3, 4, 1, 2,
		0, 0, 0, 1, 0, 0, 0, 2, 0, 0, 0, 3, 0, 0, 0, 4, 0x80, 0, 0, 0,
		5, 6, 7, 8, 0, 0, 0, 0, 0x80, 0, 0, 0, 0, 0, 0, 9, 0, 0, 0, 10,
		0, 0, 0, 0, 0, 0, 0, 0, 0, 0, 0, 0, 0, 0, 0, 0, 0, 0, 0, 0,
	}, api.OK)
	for _, n := range []int{0, 1, 63, 64} {
		for _, m := range []int{0, 1, 64} {
			d := lists.Delta{To: 9, Add: cards(1, n), Off: actions(1, m)}
			isPut(t, d, encoded(d), api.OK)
		}
	}
}

// P12.4: each number at each edge, in Add and in Off, alone and behind others.
func TestPutNumbers(t *testing.T) {
	for _, n := range edges {
		want := api.OK
		if n < 1 || n > 1<<31-1 {
			want = api.ErrArg
		}
		isPutOr(t, lists.Delta{To: n, Add: cards(1, 2)}, want)
		for i := range 5 {
			var x api.Item
			fields := []*int{&x.Card, &x.Owner, &x.Id, &x.Number, &x.Amount}
			*fields[i] = n
			want := api.OK
			if n < 0 || n > 1<<31 {
				want = api.ErrArg
			}
			isPutOr(t, lists.Delta{To: 1, Add: []api.Item{x}}, want)
			isPutOr(t, lists.Delta{To: 1, Off: []api.Item{x}}, want)
			isPutOr(t, lists.Delta{To: 1, Add: append(cards(1, 63), x), Off: cards(1, 3)}, want)
			isPutOr(t, lists.Delta{To: 1, Add: cards(1, 3), Off: append(cards(1, 63), x)}, want)
		}
	}
}

// isPutOr: a delta's encoding, or that error.
func isPutOr(t *testing.T, d lists.Delta, want api.Errno) {
	t.Helper()
	if want == api.OK {
		isPut(t, d, encoded(d), api.OK)
		return
	}
	isPut(t, d, nil, want)
}

// P12.4: too many items, and a wrong number ahead of them, wherever it stands.
func TestPutLong(t *testing.T) {
	for _, n := range []int{65, 66, 255, 256, 257, 320, 1 << 16, 1<<16 + 1} {
		xs := slices.Repeat([]api.Item{card(1)}, n)
		wrong := append(slices.Clone(xs), api.Item{Amount: 1<<31 + 1})
		isPut(t, lists.Delta{To: 1, Add: xs}, nil, api.ErrLong)
		isPut(t, lists.Delta{To: 1, Off: xs}, nil, api.ErrLong)
		isPut(t, lists.Delta{To: 1, Add: xs, Off: xs}, nil, api.ErrLong)
		isPut(t, lists.Delta{To: 0, Add: xs}, nil, api.ErrArg)
		isPut(t, lists.Delta{To: 1 << 31, Off: xs}, nil, api.ErrArg)
		isPut(t, lists.Delta{To: 1, Add: wrong}, nil, api.ErrArg)
		isPut(t, lists.Delta{To: 1, Off: wrong}, nil, api.ErrArg)
		isPut(t, lists.Delta{To: 1, Add: xs, Off: []api.Item{{Card: -1}}}, nil, api.ErrArg)
		isPut(t, lists.Delta{To: 1, Add: []api.Item{{Id: -1}}, Off: xs}, nil, api.ErrArg)
	}
}

// P12.4: each length of an encoding, cut off or with more behind it.
func TestGetLengths(t *testing.T) {
	for _, d := range []lists.Delta{{To: 1}, {To: 1, Add: cards(1, 1)}, {To: 1, Off: cards(1, 1)}, {To: 1<<31 - 1, Add: cards(1, 2), Off: actions(1, 3)}, {To: 5, Add: cards(1, 64), Off: actions(1, 64)}} {
		b := encoded(d)
		isGot(t, b, d, api.OK)
		for n := range len(b) {
			isRefused(t, b[:n], api.ErrShort)
		}
		for _, n := range []int{1, 2, 20, 40, 255} {
			isRefused(t, append(slices.Clone(b), make([]byte, n)...), api.ErrTrail)
		}
	}
}

// P12.4: a version and numbers of elements that can't be come ahead of what is missing or too much, and that comes ahead of the items.
func TestGetOrder(t *testing.T) {
	great := bytes.Repeat([]byte{0xFF}, 20)
	for _, head := range [][]byte{{0, 0, 0, 0, 1, 0}, {0x80, 0, 0, 0, 1, 0}, {0xFF, 0xFF, 0xFF, 0xFF, 1, 0}, {0, 0, 0, 1, 65, 0}, {0, 0, 0, 1, 0, 65}, {0, 0, 0, 1, 255, 0}, {0, 0, 0, 1, 0, 255}, {0, 0, 0, 1, 128, 1}, {0, 0, 0, 1, 192, 64}} {
		for n := range 6 {
			isRefused(t, head[:n], api.ErrShort)
		}
		for _, rest := range [][]byte{nil, great[:1], great, make([]byte, 20), make([]byte, 1300), make([]byte, 5100), make([]byte, 1<<16)} {
			isRefused(t, append(slices.Clone(head), rest...), api.ErrForm)
		}
	}
	one := []byte{0, 0, 0, 1, 1, 0}
	isRefused(t, one, api.ErrShort)
	isRefused(t, append(slices.Clone(one), great[:19]...), api.ErrShort)
	isRefused(t, append(append(slices.Clone(one), great...), 0), api.ErrTrail)
	isRefused(t, append(slices.Clone(one), great...), api.ErrForm)
}

// P12.4: each number of each item at the greatest that can be, and above it.
func TestGetNumbers(t *testing.T) {
	d := lists.Delta{To: 1, Add: cards(1, 2), Off: actions(1, 2)}
	for at := 6; at < 86; at += 4 {
		b := encoded(d)
		binary.BigEndian.PutUint32(b[at:], 1<<31)
		want, _ := decoded(b)
		isGot(t, b, want, api.OK)
		for _, n := range []uint32{1<<31 + 1, 1<<31 + 1<<16, math.MaxUint32 - 1, math.MaxUint32} {
			binary.BigEndian.PutUint32(b[at:], n)
			isRefused(t, b, api.ErrForm)
		}
	}
}

// P12.4: Get doesn't ask whether items are valid for a list, nor whether one comes twice.
func TestGetAnyItems(t *testing.T) {
	d := lists.Delta{To: 1, Add: []api.Item{{}, {}, {Owner: 1 << 31}, {Card: 7, Number: 1}}, Off: []api.Item{{}, {Id: 1}}}
	isGot(t, encoded(d), d, api.OK)
}

// P12.5: what is put comes back, and what can be got is put the same.
func TestReverse(t *testing.T) {
	d := dice(5)
	for range 300 {
		x := lists.Delta{To: 1 + d.below(1<<31-1)}
		for _, xs := range []*[]api.Item{&x.Add, &x.Off} {
			for range d.below(65) >> d.below(6) {
				*xs = append(*xs, action(d.below(1<<31), d.below(5), d.below(1<<31), 1<<31-d.below(2), 1<<31-d.below(3)))
			}
		}
		b, e := lists.Put(x)
		if e != api.OK || !bytes.Equal(b, encoded(x)) {
			t.Errorf("P12.4: Put(%v): %x, %d", x, b, e)
		}
		if got, e := lists.Get(b); e != api.OK || !sameDelta(got, x) {
			t.Errorf("P12.5: Get of Put(%v): %v, %d", x, got, e)
		}
		if n := len(b); n > 0 {
			b[d.below(min(n, 30))] ^= 1 << d.below(8)
		}
		want, wantE := decoded(b)
		isGot(t, b, want, wantE)
		if wantE == api.OK {
			isPut(t, want, b, api.OK)
		}
	}
}

// P12.5: deltas that come twice, and old ones again, in any order, leave the list that each of them once makes.
func TestAppliedAnyWay(t *testing.T) {
	for seed := range 80 {
		d := dice(seed)
		var h, plain lists.Hot
		var ds []lists.Delta
		for to := 1; to <= 12; to++ {
			x := lists.Delta{To: to, Add: d.items(false, 4), Off: d.items(false, 3)}
			if plain.Apply(x) != api.OK {
				x = lists.Delta{To: to}
				isApplied(t, &plain, x, api.OK)
			}
			ds = append(ds, x)
		}
		for turn, at := 0, 0; at < len(ds); turn++ {
			x := ds[d.below(len(ds))]
			// Now and then the next one, so that an end is sure.
			if turn%5 == 0 {
				x = ds[at]
			}
			want := api.OK
			if x.To <= at {
				want = api.ErrOld
			} else if x.To > at+1 {
				want = api.ErrState
			} else {
				at++
			}
			isApplied(t, &h, x, want)
		}
		for _, x := range ds {
			isApplied(t, &h, x, api.ErrOld)
		}
		if h.Version() != plain.Version() || !slices.Equal(h.Items(), plain.Items()) {
			t.Errorf("P12.5: %d %v; should be %d %v", h.Version(), h.Items(), plain.Version(), plain.Items())
		}
	}
}

// scribble changes all that a holder of items can reach, the spare capacity too.
func scribble(xs []api.Item) {
	xs = xs[:cap(xs)]
	for i := range xs {
		xs[i] = action(-1, -2, -3, -4, -5)
	}
}

// P12.5: what Apply is given is neither changed, in its spare capacity either, nor kept.
func TestApplyArguments(t *testing.T) {
	for _, l := range []versioned{&lists.Hot{}, &lists.Act{}} {
		whole := append(actions(1, 4), actions(1, 4)...)
		if _, ok := l.(*lists.Hot); ok {
			whole = append(cards(1, 4), cards(1, 4)...)
		}
		before := slices.Clone(whole)
		d := lists.Delta{To: 1, Add: whole[:3:4], Off: whole[2:3]}
		isApplied(t, l, d, api.OK)
		isApplied(t, l, lists.Delta{To: 2, Add: whole[2:8], Off: whole[:1:8]}, api.OK)
		if !slices.Equal(whole, before) {
			t.Errorf("P12.5: changed to %v", whole)
		}
		scribble(whole)
		isList(t, l, 2, before[1], before[2], before[3], before[0])
	}
}

// P12.5: who changes a result, changes nothing else.
func TestResults(t *testing.T) {
	h, a := hot(t, cards(1, 5)...), act(t, actions(1, 5)...)
	for range 2 {
		scribble(h.Items())
		scribble(a.Items())
		isList(t, h, 1, cards(1, 5)...)
		isList(t, a, 1, actions(1, 5)...)
	}
	seq := a.For(0, 1, 1, 0)
	scribble(slices.Collect(seq))
	if got := slices.Collect(seq); !slices.Equal(got, actions(1, 5)) {
		t.Errorf("P12.3: changed to %v", got)
	}
	kept := h.Items()
	isApplied(t, h, lists.Delta{To: 2, Off: cards(2, 1), Add: cards(9, 1)}, api.OK)
	if !slices.Equal(kept, cards(1, 5)) {
		t.Errorf("P12.5: Items changed to %v", kept)
	}
}

// P12.5: Put and Get.
func TestFormMemory(t *testing.T) {
	whole := append(cards(1, 3), actions(1, 3)...)
	before := slices.Clone(whole)
	d := lists.Delta{To: 1, Add: whole[:2:3], Off: whole[3:5:6]}
	b, _ := lists.Put(d)
	if !slices.Equal(whole, before) {
		t.Errorf("P12.5: Put changed %v to %v", before, whole)
	}
	want := encoded(d)
	one, _ := lists.Get(b)
	if !bytes.Equal(b, want) {
		t.Errorf("P12.5: Get changed %x to %x", want, b)
	}
	for i, x := range b[:cap(b)] {
		b[:cap(b)][i] = ^x
	}
	if !sameDelta(one, d) {
		t.Errorf("P12.5: Get kept its argument: %v", one)
	}
	isPut(t, d, want, api.OK)
	two, _ := lists.Get(want)
	scribble(one.Add)
	if !slices.Equal(one.Off, d.Off) {
		t.Errorf("P12.5: Add and Off share memory: %v", one)
	}
	other, _ := lists.Get(want)
	scribble(other.Off)
	if !slices.Equal(other.Add, d.Add) || !sameDelta(two, d) {
		t.Errorf("P12.5: results share memory: %v, %v", other, two)
	}
}

// Lists know nothing of each other.
func TestListsApart(t *testing.T) {
	var a, b lists.Hot
	isApplied(t, &a, lists.Delta{To: 1, Add: cards(1, 1)}, api.OK)
	isList(t, &b, 0)
	isApplied(t, &b, lists.Delta{To: 1, Add: cards(2, 1)}, api.OK)
	isList(t, &a, 1, cards(1, 1)...)
	isHad(t, &a, 2, 1, 1, false)
	isHad(t, &b, 1, 1, 1, false)
}

// Rows of calls, held against the model after each.
func TestByAnotherWay(t *testing.T) {
	for seed := range 60 {
		d := dice(seed)
		var h lists.Hot
		var a lists.Act
		hm, am := &model{}, &model{act: true}
		for range 60 {
			for _, x := range []struct {
				l versioned
				m *model
			}{{&h, hm}, {&a, am}} {
				next := lists.Delta{To: x.m.version + 1, Add: d.items(x.m.act, 6), Off: d.items(x.m.act, 4)}
				if d.below(6) == 0 {
					next.To += d.below(4) - 2
				}
				isApplied(t, x.l, next, x.m.apply(next))
				isList(t, x.l, x.m.version, x.m.row...)
			}
			c, owner, id, from := d.below(5), d.below(4), d.below(4), d.below(7)
			isHad(t, &h, c, owner, id, hm.has(c, owner, id))
			isFor(t, &a, c, owner, id, from, am.after(c, owner, id, from)...)
		}
	}
}

// Long lists are not told in the messages.
func TestNoPanic(t *testing.T) {
	many := slices.Repeat(cards(1, 64), 1<<12)
	var h lists.Hot
	if e := h.Apply(lists.Delta{To: 1, Add: many, Off: many}); e != api.OK || len(h.Items()) != 64 {
		t.Errorf("P1: very many items: %d, %d items", e, len(h.Items()))
	}
	if e := h.Apply(lists.Delta{To: 2, Add: append(many, card(65))}); e != api.ErrFull || len(h.Items()) != 64 {
		t.Errorf("P1: very many items and one: %d, %d items", e, len(h.Items()))
	}
	if d, e := lists.Get(make([]byte, 1<<24)); e != api.ErrForm || !sameDelta(d, lists.Delta{}) {
		t.Errorf("P1: very many bytes: %d", e)
	}
	var different []api.Item
	for id := 1; id <= 65535; id++ {
		different = append(different, product(0, 1, id), product(0, 2, id))
	}
	if e := (&lists.Hot{}).Apply(lists.Delta{To: 1, Add: different, Off: different}); e != api.ErrFull {
		t.Errorf("P1: very many different items: %d", e)
	}
	for _, x := range edges {
		for _, y := range edges {
			d := lists.Delta{To: x, Add: []api.Item{action(y, x, y, x, y)}, Off: []api.Item{action(x, y, x, y, x)}}
			isApplied(t, &lists.Hot{}, d, (&model{}).apply(d))
			isApplied(t, &lists.Act{}, d, (&model{act: true}).apply(d))
			b, e := lists.Put(d)
			if got, _ := lists.Get(b); e == api.OK && !sameDelta(got, d) {
				t.Errorf("P12.5: Get of Put(%v): %v", d, got)
			}
			isHad(t, &h, x, y, x, x >= 1 && x <= 64)
		}
	}
}
