package oracle_test

import (
	"bytes"
	"math"
	"slices"
	"testing"

	"farebox/api"
	"farebox/oracle"
)

// model is what an oracle should be, by another way: a row of what was minted, gone through from its beginning.
type model []oracle.Minted

func (m model) at(k api.Key, text string) int {
	for i, x := range m {
		if x.Key.Op == k.Op && x.Key.Type == k.Type && x.Key.Card == k.Card && x.Key.Ver == k.Ver && x.Data == text {
			return i + 1
		}
	}
	return 0
}

func (m *model) mint(k api.Key, text string) api.Token {
	if at := m.at(k, text); at > 0 {
		return api.Token(at)
	}
	*m = append(*m, oracle.Minted{Token: api.Token(len(*m) + 1), Key: k, Data: text})
	return api.Token(len(*m))
}

func (m model) holds(t api.Token, k api.Key, text string) bool {
	at := m.at(k, text)
	return at > 0 && int(t) == at
}

// dice are numbers made by a fixed rule.
type dice uint64

func (d *dice) below(n int) int {
	*d = *d*6364136223846793005 + 1442695040888963407
	return int(uint64(*d)>>32) % n
}

// key is one of few, so that most come again.
func (d *dice) key() api.Key {
	return api.Key{Op: d.below(2), Type: d.below(2), Card: d.below(2), Ver: d.below(2)}
}

// text is a short one of few letters, a nought among them.
func (d *dice) text() string {
	b := make([]byte, d.below(4))
	for i := range b {
		b[i] = "a\x00"[d.below(2)]
	}
	return string(b)
}

// cut is a text in pieces, some of them empty, one of them nil.
func (d *dice) cut(text string) [][]byte {
	pieces := [][]byte{}
	for text != "" {
		n := d.below(len(text) + 1)
		pieces = append(pieces, []byte(text[:n]))
		text = text[n:]
	}
	switch d.below(3) {
	case 0:
		pieces = append(pieces, nil)
	case 1:
		pieces = append([][]byte{{}}, pieces...)
	}
	return pieces
}

func key(op, kind, card, ver int) api.Key {
	return api.Key{Op: op, Type: kind, Card: card, Ver: ver}
}

func texts(ss ...string) [][]byte {
	bs := [][]byte{}
	for _, s := range ss {
		bs = append(bs, []byte(s))
	}
	return bs
}

func isMint(t *testing.T, o *oracle.Oracle, want api.Token, k api.Key, data ...[]byte) {
	t.Helper()
	if got := o.Mint(k, data...); got != want {
		t.Errorf("P8.1: Mint(%v, %q): %d; should be %d", k, data, got, want)
	}
}

func isHeld(t *testing.T, promise string, o *oracle.Oracle, want bool, x api.Token, k api.Key, data ...[]byte) {
	t.Helper()
	if got := o.Holds(x, k, data...); got != want {
		t.Errorf("%s: Holds(%d, %v, %q): %v", promise, x, k, data, got)
	}
}

func isAll(t *testing.T, o *oracle.Oracle, want ...oracle.Minted) {
	t.Helper()
	if got := slices.Collect(o.All()); !slices.Equal(got, want) {
		t.Errorf("P8.2: All: %v; should be %v", got, want)
	}
	if got := o.Len(); got != len(want) {
		t.Errorf("P8.2: Len: %d; should be %d", got, len(want))
	}
}

func TestExamples(t *testing.T) {
	var o oracle.Oracle
	isMint(t, &o, 1, key(1, 0, 0, 1), texts("ab")...)
	isMint(t, &o, 1, key(1, 0, 0, 1), texts("a", "b")...)
	isMint(t, &o, 2, key(1, 0, 0, 2), texts("ab")...)
	isHeld(t, "P8.1", &o, true, 1, key(1, 0, 0, 1), texts("ab")...)
	isHeld(t, "P8.1", &o, false, 2, key(1, 0, 0, 1), texts("ab")...)
	isHeld(t, "P8.1", &o, false, 7, key(1, 0, 0, 1), texts("ab")...)
	isAll(t, &o, oracle.Minted{Token: 1, Key: key(1, 0, 0, 1), Data: "ab"}, oracle.Minted{Token: 2, Key: key(1, 0, 0, 2), Data: "ab"})
}

func TestNothingIssued(t *testing.T) {
	var o oracle.Oracle
	isAll(t, &o)
	for _, x := range []api.Token{math.MinInt, -1, 0, 1, 2, math.MaxInt} {
		isHeld(t, "P8.3", &o, false, x, api.Key{})
		isHeld(t, "P8.3", &o, false, x, api.Key{}, nil)
		isHeld(t, "P8.3", &o, false, x, key(1, 0, 0, 1), texts("ab")...)
	}
	isAll(t, &o)
	isMint(t, new(oracle.Oracle), 1, api.Key{})
}

func TestHoldsIssuesNothing(t *testing.T) {
	var o oracle.Oracle
	isMint(t, &o, 1, api.Key{}, texts("a")...)
	isHeld(t, "P8.3", &o, false, 2, api.Key{}, texts("b")...)
	isAll(t, &o, oracle.Minted{Token: 1, Data: "a"})
	isMint(t, &o, 2, api.Key{}, texts("c")...)
	isHeld(t, "P8.3", &o, false, 2, api.Key{}, texts("b")...)
	isMint(t, &o, 3, api.Key{}, texts("b")...)
}

// Bytes are what they are together, however they are cut; none at all are bytes too.
func TestPieces(t *testing.T) {
	var o oracle.Oracle
	k := key(1, 2, 3, 4)
	isMint(t, &o, 1, k)
	for _, none := range [][][]byte{nil, {}, {nil}, {{}}, {nil, {}, nil}} {
		isMint(t, &o, 1, k, none...)
		isHeld(t, "P8.1", &o, true, 1, k, none...)
	}
	isMint(t, &o, 2, k, texts("abc")...)
	for _, cut := range [][][]byte{texts("abc"), texts("a", "bc"), texts("ab", "c"), texts("a", "b", "c"), texts("", "abc", ""), {nil, []byte("ab"), nil, []byte("c")}} {
		isMint(t, &o, 2, k, cut...)
		isHeld(t, "P8.1", &o, true, 2, k, cut...)
		isHeld(t, "P8.1", &o, false, 1, k, cut...)
	}
	for _, other := range [][][]byte{texts("c", "ab"), texts("a", "b"), texts("abc", "c"), texts("a", " ", "bc"), texts("a", "\x00", "bc"), texts("abc\x00"), texts("\x00abc"), texts("ABC")} {
		isHeld(t, "P8.3", &o, false, 2, k, other...)
	}
	isAll(t, &o, oracle.Minted{Token: 1, Key: k}, oracle.Minted{Token: 2, Key: k, Data: "abc"})
}

// Bytes need not be text: those that are no UTF-8 differ from each other too.
func TestEachByteDiffers(t *testing.T) {
	var o oracle.Oracle
	for first := range 256 {
		for _, rest := range [][]byte{nil, {0}, {255}} {
			b := append([]byte{byte(first)}, rest...)
			isMint(t, &o, api.Token(o.Len()+1), api.Key{}, b)
		}
	}
	n := 0
	for m := range o.All() {
		if want := append([]byte{byte(n / 3)}, [][]byte{nil, {0}, {255}}[n%3]...); m.Data != string(want) {
			t.Errorf("P8.2: the token %d: %X; should be %X", m.Token, m.Data, want)
		}
		isHeld(t, "P8.3", &o, true, m.Token, m.Key, []byte(m.Data))
		n++
	}
	if n != 768 {
		t.Errorf("P8.2: All: %d tokens", n)
	}
}

// Each of a key's numbers counts, in its own place, over the whole range of an int.
func TestEachKeyDiffers(t *testing.T) {
	var o oracle.Oracle
	keys := []api.Key{{}}
	for _, n := range []int{1, -1, 256, 257, 1 << 32, 1<<32 + 1, math.MaxInt, math.MinInt} {
		keys = append(keys, key(n, 0, 0, 0), key(0, n, 0, 0), key(0, 0, n, 0), key(0, 0, 0, n), key(n, n, n, n))
	}
	for i, k := range keys {
		isHeld(t, "P8.3", &o, false, api.Token(i+1), k, texts("x")...)
		isMint(t, &o, api.Token(i+1), k, texts("x")...)
	}
	for i, k := range keys {
		isMint(t, &o, api.Token(i+1), k, texts("x")...)
		for x := range len(keys) + 2 {
			isHeld(t, "P8.3", &o, x == i+1, api.Token(x), k, texts("x")...)
			isHeld(t, "P8.3", &o, false, api.Token(x), k)
		}
	}
}

// A key's digits and bytes must not run together.
func TestKeyAndBytesApart(t *testing.T) {
	var o oracle.Oracle
	isMint(t, &o, 1, key(1, 0, 0, 1), texts("1")...)
	isMint(t, &o, 2, key(1, 0, 0, 11))
	isMint(t, &o, 3, key(1, 0, 0, 0), texts("11")...)
	isMint(t, &o, 4, key(10, 0, 1, 0), texts("1")...)
	isMint(t, &o, 5, key(1, 0, 0, 1), texts("\x01")...)
}

func TestAllAsItWas(t *testing.T) {
	var o oracle.Oracle
	none := o.All()
	isMint(t, &o, 1, api.Key{}, texts("a")...)
	one := o.All()
	for i := range 20 {
		isMint(t, &o, api.Token(i+2), key(i, 0, 0, 0), texts("b")...)
	}
	if got := slices.Collect(none); len(got) != 0 {
		t.Errorf("P8.2: of none: %v", got)
	}
	for range 2 {
		if got := slices.Collect(one); !slices.Equal(got, []oracle.Minted{{Token: 1, Data: "a"}}) {
			t.Errorf("P8.2: of one: %v", got)
		}
	}
	if got := slices.Collect(o.All()); len(got) != 21 {
		t.Errorf("P8.2: of 21: %v", got)
	}
}

// What a loop over the tokens issues, it doesn't yield.
func TestMintWithinAll(t *testing.T) {
	var o oracle.Oracle
	isMint(t, &o, 1, api.Key{}, texts("a")...)
	isMint(t, &o, 2, api.Key{}, texts("b")...)
	n := 0
	for m := range o.All() {
		n++
		isMint(t, &o, api.Token(n+2), m.Key, []byte(m.Data), []byte("!"))
	}
	if n != 2 {
		t.Errorf("P8.2: %d turns", n)
	}
	isAll(t, &o, oracle.Minted{Token: 1, Data: "a"}, oracle.Minted{Token: 2, Data: "b"}, oracle.Minted{Token: 3, Data: "a!"}, oracle.Minted{Token: 4, Data: "b!"})
}

func TestAllStopsAndNests(t *testing.T) {
	var o oracle.Oracle
	for i := range 3 {
		isMint(t, &o, api.Token(i+1), api.Key{}, make([]byte, i))
	}
	all := o.All()
	for stop := 1; stop <= 3; stop++ {
		n := 0
		for m := range all {
			n++
			if int(m.Token) != n {
				t.Errorf("P8.2: the token %d at turn %d", m.Token, n)
			}
			if n == stop {
				break
			}
		}
		if n != stop {
			t.Errorf("P8.2: %d turns; should be %d", n, stop)
		}
	}
	pairs := []api.Token{}
	for m := range all {
		for l := range all {
			pairs = append(pairs, 10*m.Token+l.Token)
		}
	}
	if want := []api.Token{11, 12, 13, 21, 22, 23, 31, 32, 33}; !slices.Equal(pairs, want) {
		t.Errorf("P8.2: nested: %v", pairs)
	}
}

// Two oracles know nothing of each other.
func TestOraclesApart(t *testing.T) {
	var a, b oracle.Oracle
	isMint(t, &a, 1, api.Key{}, texts("a")...)
	isHeld(t, "P8.3", &b, false, 1, api.Key{}, texts("a")...)
	isMint(t, &b, 1, api.Key{}, texts("b")...)
	isHeld(t, "P8.3", &a, false, 1, api.Key{}, texts("b")...)
	isAll(t, &a, oracle.Minted{Token: 1, Data: "a"})
	isAll(t, &b, oracle.Minted{Token: 1, Data: "b"})
}

func TestArguments(t *testing.T) {
	var o oracle.Oracle
	whole := []byte("abcdefgh")
	data := [][]byte{whole[0:2:4], whole[4:5], nil, {}}
	isMint(t, &o, 1, api.Key{}, data[:2]...)
	isHeld(t, "P8.1", &o, true, 1, api.Key{}, data[:2]...)
	if string(whole) != "abcdefgh" || string(data[0]) != "ab" || string(data[1]) != "e" || data[2] != nil || len(data[3]) != 0 {
		t.Errorf("P8.3: changed to %q, %q", whole, data)
	}
	one := []byte("one")
	isMint(t, &o, 2, api.Key{}, one)
	all := o.All()
	copy(whole, "ABCDEFGH")
	copy(one, "ONE")
	data[0] = nil
	isHeld(t, "P8.3", &o, true, 1, api.Key{}, texts("abe")...)
	isHeld(t, "P8.3", &o, false, 1, api.Key{}, texts("ABE")...)
	isHeld(t, "P8.3", &o, true, 2, api.Key{}, texts("one")...)
	isHeld(t, "P8.3", &o, false, 2, api.Key{}, one)
	want := []oracle.Minted{{Token: 1, Data: "abe"}, {Token: 2, Data: "one"}}
	isAll(t, &o, want...)
	if got := slices.Collect(all); !slices.Equal(got, want) {
		t.Errorf("P8.3: kept: %v", got)
	}
	isMint(t, &o, 3, api.Key{}, one)
}

// Rows of calls, held against the model after each.
func TestByAnotherWay(t *testing.T) {
	for seed := range 60 {
		d := dice(seed)
		var o oracle.Oracle
		m := model{}
		for range 80 {
			k, text := d.key(), d.text()
			if d.below(2) == 0 {
				isMint(t, &o, m.mint(k, text), k, d.cut(text)...)
			}
			x := api.Token(d.below(len(m)+3) - 1)
			if at := m.at(k, text); d.below(2) == 0 {
				x = api.Token(at)
			}
			isHeld(t, "P8.3", &o, m.holds(x, k, text), x, k, d.cut(text)...)
		}
		isAll(t, &o, m...)
		for _, x := range m {
			for _, y := range m {
				isHeld(t, "P8.3", &o, x == y, x.Token, y.Key, []byte(y.Data))
			}
		}
	}
}

// Long data are not told in the messages.
func TestNoPanic(t *testing.T) {
	var o oracle.Oracle
	edges := []int{math.MinInt, math.MinInt + 1, -1, 0, 1, 1 << 31, math.MaxInt - 1, math.MaxInt}
	long, many := bytes.Repeat([]byte{7}, 1<<20), make([][]byte, 1<<16)
	for i, n := range edges {
		k := key(n, -n, n, n)
		for j, data := range [][][]byte{nil, many, {long}, {long, nil, long}} {
			x := o.Mint(k, data...)
			if want := api.Token(3*i + max(j, 1)); x != want {
				t.Errorf("P1: Mint(%v, case %d): %d; should be %d", k, j, x, want)
			}
			for _, other := range edges {
				if got := o.Holds(api.Token(other), k, data...); got != (api.Token(other) == x) {
					t.Errorf("P1: Holds(%d, %v, case %d): %v", other, k, j, got)
				}
			}
		}
	}
}
