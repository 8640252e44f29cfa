package keys_test

import (
	"math"
	"slices"
	"testing"

	"farebox/api"
	"farebox/keys"
)

func key(op, kind, card, ver int) api.Key {
	return api.Key{Op: op, Type: kind, Card: card, Ver: ver}
}

// level is a key's level by another way: one of four shapes, each told on its own, or -1.
func level(k api.Key) int {
	if k.Ver <= 0 || k.Ver >= 256 {
		return -1
	}
	op, kind, card := k.Op >= 1 && k.Op <= 4, k.Type >= 1 && k.Type <= 4, k.Card >= 1 && k.Card <= 65535
	switch {
	case k.Op == 0 && k.Type == 0 && k.Card == 0:
		return 0
	case op && k.Type == 0 && k.Card == 0:
		return 1
	case op && kind && k.Card == 0:
		return 2
	case op && kind && card:
		return 3
	}
	return -1
}

// parent is the key above one that is valid and not the root.
func parent(k api.Key) api.Key {
	return map[int]api.Key{1: {Ver: k.Ver}, 2: {Op: k.Op, Ver: k.Ver}, 3: {Op: k.Op, Type: k.Type, Ver: k.Ver}}[level(k)]
}

// from: does each field of the key above that is not 0 stand in the valid key, too?
func from(k, above api.Key) bool {
	same := func(n, up int) bool { return up == 0 || n == up }
	return level(k) >= 0 && level(above) >= 0 && k.Ver == above.Ver && same(k.Op, above.Op) && same(k.Type, above.Type) && same(k.Card, above.Card)
}

// derived is the key below, step by step.
func derived(k api.Key, path ...int) (api.Key, api.Errno) {
	if level(k) < 0 {
		return api.Key{}, api.ErrArg
	}
	if level(k)+len(path) > 3 {
		return api.Key{}, api.ErrNest
	}
	for _, n := range path {
		next := k
		switch level(k) {
		case 0:
			next.Op = n
		case 1:
			next.Type = n
		case 2:
			next.Card = n
		}
		if level(next) != level(k)+1 {
			return api.Key{}, api.ErrArg
		}
		k = next
	}
	return k, api.OK
}

// all are keys of these fields in every combination.
func all(ops, kinds, cards, vers []int) []api.Key {
	ks := []api.Key{}
	for _, op := range ops {
		for _, kind := range kinds {
			for _, card := range cards {
				for _, ver := range vers {
					ks = append(ks, key(op, kind, card, ver))
				}
			}
		}
	}
	return ks
}

// edges are keys at the limits and just beside them, valid and not, and at the ends of an int.
func edges() []api.Key {
	few := []int{math.MinInt, -1, 0, 1, 2, 4, 5, math.MaxInt}
	cards := []int{math.MinInt, -1, 0, 1, 77, 255, 256, 65535, 65536, math.MaxInt}
	vers := []int{math.MinInt, -1, 0, 1, 2, 254, 255, 256, 257, math.MaxInt}
	return all(few, few, cards, vers)
}

// some are fewer keys, for each to be held against each.
func some() []api.Key {
	return all([]int{-1, 0, 1, 2, 4, 5}, []int{-1, 0, 1, 2, 4, 5}, []int{-1, 0, 1, 2, 65535, 65536}, []int{0, 1, 2, 256})
}

func valid(ks []api.Key) []api.Key {
	return slices.DeleteFunc(ks, func(k api.Key) bool { return level(k) < 0 })
}

// is holds a key and an error against those that should be.
func is(t *testing.T, what string, got api.Key, e api.Errno, want api.Key, wantE api.Errno) {
	t.Helper()
	if got != want || e != wantE {
		t.Errorf("%s: %v, %d; should be %v, %d", what, got, e, want, wantE)
	}
}

func isDerived(t *testing.T, want api.Key, wantE api.Errno, root api.Key, path ...int) {
	t.Helper()
	got, e := keys.Derive(root, path...)
	if got != want || e != wantE {
		t.Errorf("P9.1: Derive(%v, %v): %v, %d; should be %v, %d", root, path, got, e, want, wantE)
	}
}

func isFrom(t *testing.T, want bool, k api.Key, above ...api.Key) {
	t.Helper()
	if got := keys.From(k, above...); got != want {
		t.Errorf("P9.2: From(%v, %v): %v", k, above, got)
	}
}

func TestExamples(t *testing.T) {
	isDerived(t, key(2, 1, 77, 1), api.OK, key(0, 0, 0, 1), 2, 1, 77)
	if got := keys.Level(key(2, 1, 77, 1)); got != 3 {
		t.Errorf("P9.1: Level: %d", got)
	}
	isDerived(t, api.Key{}, api.ErrArg, key(2, 0, 0, 1), 5)
	isDerived(t, api.Key{}, api.ErrNest, key(2, 1, 77, 1), 1)
	got, e := keys.Parent(key(2, 1, 77, 1))
	is(t, "P9.2: Parent", got, e, key(2, 1, 0, 1), api.OK)
	isFrom(t, true, key(2, 1, 77, 1), key(2, 0, 0, 1))
	isFrom(t, false, key(2, 1, 77, 1), key(2, 0, 0, 2))
	if keys.Right(key(0, 1, 0, 1)) {
		t.Error("P9.1: Right: a type without an operator")
	}
}

func TestRightAndLevel(t *testing.T) {
	for _, c := range []struct {
		k     api.Key
		level int
	}{
		{key(0, 0, 0, 1), 0}, {key(0, 0, 0, 255), 0}, {key(1, 0, 0, 1), 1}, {key(4, 0, 0, 255), 1},
		{key(1, 1, 0, 1), 2}, {key(4, 4, 0, 255), 2}, {key(1, 1, 1, 1), 3}, {key(4, 4, 65535, 255), 3},
		{api.Key{}, -1}, {key(0, 0, 0, 256), -1}, {key(0, 0, 0, -1), -1}, {key(1, 1, 1, 0), -1}, {key(1, 1, 1, 256), -1},
		{key(5, 0, 0, 1), -1}, {key(-1, 0, 0, 1), -1}, {key(5, 1, 1, 1), -1}, {key(-1, 1, 1, 1), -1},
		{key(1, 5, 0, 1), -1}, {key(1, -1, 0, 1), -1}, {key(1, 5, 1, 1), -1}, {key(1, -1, 1, 1), -1},
		{key(1, 1, 65536, 1), -1}, {key(1, 1, -1, 1), -1},
		{key(0, 1, 0, 1), -1}, {key(0, 0, 1, 1), -1}, {key(0, 1, 1, 1), -1}, {key(1, 0, 1, 1), -1}, {key(0, -1, 0, 1), -1}, {key(1, 0, -1, 1), -1},
	} {
		if got := keys.Level(c.k); got != c.level {
			t.Errorf("P9.1: Level(%v): %d; should be %d", c.k, got, c.level)
		}
		if got := keys.Right(c.k); got != (c.level >= 0) {
			t.Errorf("P9.1: Right(%v): %v", c.k, got)
		}
	}
}

func TestRightAndLevelByAnotherWay(t *testing.T) {
	levels := map[int]int{}
	for _, k := range edges() {
		want := level(k)
		levels[want]++
		if got := keys.Level(k); got != want {
			t.Errorf("P9.1: Level(%v): %d; should be %d", k, got, want)
		}
		if got := keys.Right(k); got != (want >= 0) {
			t.Errorf("P9.1: Right(%v): %v", k, got)
		}
	}
	for n := -1; n <= 3; n++ {
		if levels[n] == 0 {
			t.Errorf("no key of level %d was tried", n)
		}
	}
}

func TestDeriveErrorsInOrder(t *testing.T) {
	// A root that is not valid comes first, though the path is too long and has a 0.
	isDerived(t, api.Key{}, api.ErrArg, api.Key{}, 1, 1, 1, 0)
	isDerived(t, api.Key{}, api.ErrArg, key(0, 1, 0, 1), 1, 1, 1, 1)
	isDerived(t, api.Key{}, api.ErrArg, key(0, 0, 0, 256))
	// A path that is too long comes ahead of what is in it.
	isDerived(t, api.Key{}, api.ErrNest, key(0, 0, 0, 1), 0, 0, 0, 0)
	isDerived(t, api.Key{}, api.ErrNest, key(0, 0, 0, 1), 1, 1, 1, 1)
	isDerived(t, api.Key{}, api.ErrNest, key(1, 0, 0, 1), 9, 0, -1)
	isDerived(t, api.Key{}, api.ErrNest, key(1, 1, 0, 1), 1, 1)
	isDerived(t, api.Key{}, api.ErrNest, key(1, 1, 1, 1), 0)
	// A 0 at the path's end is wrong too, though without it there would be a key.
	isDerived(t, api.Key{}, api.ErrArg, key(0, 0, 0, 1), 0)
	isDerived(t, api.Key{}, api.ErrArg, key(0, 0, 0, 1), 0, 0, 0)
	isDerived(t, api.Key{}, api.ErrArg, key(0, 0, 0, 1), 2, 1, 0)
	isDerived(t, api.Key{}, api.ErrArg, key(0, 0, 0, 1), 2, 0, 77)
	isDerived(t, api.Key{}, api.ErrArg, key(2, 0, 0, 1), 1, 0)
	isDerived(t, api.Key{}, api.ErrArg, key(2, 1, 0, 1), 0)
}

// Nothing to go down: the key itself, of each level.
func TestDeriveNothing(t *testing.T) {
	for _, k := range []api.Key{key(0, 0, 0, 1), key(0, 0, 0, 255), key(4, 0, 0, 3), key(4, 4, 0, 3), key(4, 4, 65535, 3)} {
		isDerived(t, k, api.OK, k)
	}
}

func TestDeriveByAnotherWay(t *testing.T) {
	numbers := []int{math.MinInt, -1, 0, 1, 4, 5, 65535, 65536, math.MaxInt}
	paths := [][]int{nil}
	for from, length := 0, 1; length <= 4; length++ {
		end := len(paths)
		for ; from < end; from++ {
			for _, n := range numbers {
				paths = append(paths, append(slices.Clone(paths[from]), n))
			}
		}
	}
	for _, root := range []api.Key{{}, key(0, 0, 0, 1), key(0, 0, 0, 255), key(0, 0, 0, 256), key(1, 0, 0, 2), key(4, 0, 0, 1), key(5, 0, 0, 1), key(3, 2, 0, 7), key(0, 2, 0, 7), key(3, 2, 1, 7)} {
		for _, path := range paths {
			want, e := derived(root, path...)
			isDerived(t, want, e, root, path...)
		}
	}
}

func TestParent(t *testing.T) {
	for _, k := range edges() {
		got, e := keys.Parent(k)
		switch level(k) {
		case -1:
			is(t, "P9.2: Parent of one that is not valid", got, e, api.Key{}, api.ErrArg)
		case 0:
			is(t, "P9.2: Parent of the root", got, e, api.Key{}, api.ErrNone)
		default:
			is(t, "P9.2: Parent", got, e, parent(k), api.OK)
		}
	}
	got, e := keys.Parent(key(2, 1, 0, 9))
	is(t, "P9.2: Parent of a type's", got, e, key(2, 0, 0, 9), api.OK)
	got, e = keys.Parent(key(2, 0, 0, 9))
	is(t, "P9.2: Parent of an operator's", got, e, key(0, 0, 0, 9), api.OK)
}

func TestFrom(t *testing.T) {
	k := key(2, 1, 77, 3)
	up := []api.Key{k, key(2, 1, 0, 3), key(2, 0, 0, 3), key(0, 0, 0, 3)}
	isFrom(t, true, k)
	isFrom(t, true, k, up...)
	isFrom(t, true, k, k, k)
	isFrom(t, true, k, up[3], up[0], up[2], up[1])
	// One that is wrong, in any place among others that are right.
	for _, wrong := range []api.Key{{}, key(2, 1, 78, 3), key(2, 2, 0, 3), key(3, 0, 0, 3), key(2, 0, 0, 2), key(0, 0, 0, 4), key(2, 1, 77, 4), key(2, 0, 77, 3), key(0, 1, 77, 3), key(0, 1, 0, 3), key(5, 0, 0, 3), key(0, 0, 0, 0)} {
		for at := range len(up) + 1 {
			isFrom(t, false, k, slices.Insert(slices.Clone(up), at, wrong)...)
		}
		isFrom(t, false, k, wrong)
	}
	// A key is not from those below it.
	isFrom(t, false, up[1], k)
	isFrom(t, false, up[3], up[2])
	isFrom(t, false, key(2, 0, 0, 3), key(2, 1, 0, 3))
}

// A key that is not valid is from nothing, not even from itself.
func TestFromNotValid(t *testing.T) {
	for _, k := range edges() {
		isFrom(t, level(k) >= 0, k)
		isFrom(t, level(k) >= 0, k, k)
		isFrom(t, level(k) >= 0, k, key(0, 0, 0, k.Ver))
	}
}

func TestFromByAnotherWay(t *testing.T) {
	aboves := some()
	for _, k := range valid(some()) {
		for _, above := range aboves {
			isFrom(t, from(k, above), k, above)
		}
	}
	for _, above := range valid(some()) {
		for _, k := range aboves {
			isFrom(t, from(k, above), k, above)
		}
	}
}

func TestRoll(t *testing.T) {
	for _, k := range edges() {
		got, e := keys.Roll(k)
		switch {
		case level(k) < 0:
			is(t, "P9.3: Roll of one that is not valid", got, e, api.Key{}, api.ErrArg)
		case k.Ver == 255:
			is(t, "P9.3: Roll of the last", got, e, api.Key{}, api.ErrOver)
		default:
			is(t, "P9.3: Roll", got, e, key(k.Op, k.Type, k.Card, k.Ver+1), api.OK)
		}
	}
	k, e := key(4, 4, 65535, 1), api.OK
	for ver := 2; ver <= 255; ver++ {
		k, e = keys.Roll(k)
		is(t, "P9.3: Roll again", k, e, key(4, 4, 65535, ver), api.OK)
	}
	// The last version of a key that is not valid: this error is named first.
	k, e = keys.Roll(key(0, 1, 0, 255))
	is(t, "P9.3: Roll", k, e, api.Key{}, api.ErrArg)
	k, e = keys.Roll(key(1, 0, 0, math.MaxInt))
	is(t, "P9.3: Roll", k, e, api.Key{}, api.ErrArg)
}

func TestProduct(t *testing.T) {
	for _, k := range edges() {
		want, wantE := k, api.OK
		if level(k) != 3 {
			want, wantE = api.Key{}, api.ErrArg
		}
		p := api.Product{Kind: api.Kind(k.Type), Owner: k.Op, Card: k.Card, Ver: k.Ver}
		got, e := keys.Product(p)
		is(t, "P9.3: Product", got, e, want, wantE)
		// The other fields don't count.
		p.Id, p.Value, p.Last, p.Rides, p.Open, p.Zone, p.Day, p.Txn, p.Act, p.Blocked = -1, math.MinInt, 3, 4, true, 5, 6, 7, 8, true
		got, e = keys.Product(p)
		is(t, "P9.3: Product with other fields", got, e, want, wantE)
	}
	got, e := keys.Product(api.Product{Kind: api.Ticket, Owner: 1, Id: 9, Card: 65535, Ver: 255})
	is(t, "P9.3: Product", got, e, key(1, 4, 65535, 255), api.OK)
	got, e = keys.Product(api.Product{Kind: api.Purse, Owner: 2, Id: 9, Ver: 1})
	is(t, "P9.3: Product on no card", got, e, api.Key{}, api.ErrArg)
}

func TestBatch(t *testing.T) {
	for _, op := range []int{math.MinInt, -1, 0, 1, 2, 3, 4, 5, math.MaxInt} {
		for _, ver := range []int{math.MinInt, -1, 0, 1, 2, 254, 255, 256, math.MaxInt} {
			want, wantE := key(op, 0, 0, ver), api.OK
			if op < 1 || op > 4 || ver < 1 || ver > 255 {
				want, wantE = api.Key{}, api.ErrArg
			}
			got, e := keys.Batch(op, ver)
			is(t, "P9.3: Batch", got, e, want, wantE)
		}
	}
}

// Each key leads back to the root step by step, and down the same way again.
func TestThereAndBack(t *testing.T) {
	for _, k := range valid(edges()) {
		root := key(0, 0, 0, k.Ver)
		path := []int{k.Op, k.Type, k.Card}[:level(k)]
		isDerived(t, k, api.OK, root, path...)
		at := k
		for n := level(k); n > 0; n-- {
			isDerived(t, k, api.OK, at, path[n:]...)
			up, e := keys.Parent(at)
			is(t, "P9.4: a step back", up, e, parent(at), api.OK)
			isDerived(t, at, api.OK, up, path[n-1])
			isFrom(t, true, k, up)
			at = up
		}
		if at != root {
			t.Errorf("P9.4: %v leads back to %v", k, at)
		}
	}
}

// Different paths and versions make different keys.
func TestNoTwoTheSame(t *testing.T) {
	seen := map[api.Key]int{}
	n := 0
	for _, ver := range []int{1, 2, 255} {
		root := key(0, 0, 0, ver)
		paths := [][]int{nil}
		for op := 1; op <= 4; op++ {
			paths = append(paths, []int{op})
			for kind := 1; kind <= 4; kind++ {
				paths = append(paths, []int{op, kind})
				for _, card := range []int{1, 2, 255, 256, 257, 65535} {
					paths = append(paths, []int{op, kind, card})
				}
			}
		}
		for _, path := range paths {
			k, e := keys.Derive(root, path...)
			if e != api.OK || !keys.Right(k) || seen[k] > 0 {
				t.Errorf("P9.4: Derive(%v, %v): %v, %d, seen %d times", root, path, k, e, seen[k])
			}
			seen[k]++
			n++
		}
	}
	if len(seen) != n || n != 3*(1+4+16+96) {
		t.Errorf("P9.4: %d keys of %d paths", len(seen), n)
	}
}

func TestArguments(t *testing.T) {
	path := []int{2, 1, 77, 9, 9}
	isDerived(t, key(2, 1, 0, 1), api.OK, key(0, 0, 0, 1), path[:2]...)
	isDerived(t, api.Key{}, api.ErrNest, key(2, 0, 0, 1), path[:3]...)
	if !slices.Equal(path, []int{2, 1, 77, 9, 9}) {
		t.Errorf("Derive changed the path to %v", path)
	}
	above := []api.Key{key(2, 1, 0, 1), key(0, 0, 0, 1), key(3, 0, 0, 1)}
	isFrom(t, true, key(2, 1, 77, 1), above[:2]...)
	isFrom(t, false, key(2, 1, 77, 1), above...)
	if !slices.Equal(above, []api.Key{key(2, 1, 0, 1), key(0, 0, 0, 1), key(3, 0, 0, 1)}) {
		t.Errorf("From changed its keys to %v", above)
	}
}

// Long paths and many keys end.
func TestMany(t *testing.T) {
	for _, root := range []api.Key{key(0, 0, 0, 1), key(1, 1, 1, 1)} {
		if got, e := keys.Derive(root, make([]int, 1<<16)...); got != (api.Key{}) || e != api.ErrNest {
			t.Errorf("P1: a long path: %v, %d", got, e)
		}
	}
	above := slices.Repeat([]api.Key{key(0, 0, 0, 1)}, 1<<16)
	if !keys.From(key(1, 1, 1, 1), above...) {
		t.Error("P1: many keys above")
	}
	above[len(above)-1].Ver = 2
	if keys.From(key(1, 1, 1, 1), above...) {
		t.Error("P1: many keys above, the last one wrong")
	}
}
