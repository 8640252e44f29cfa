package isam

import (
	"math"
	"testing"

	"farebox/api"
	"farebox/ipe"
)

// P11.2: no oracle can be brought so far that it tells such tokens, so this edge is asked from within.
func TestTokensWithoutRoom(t *testing.T) {
	p := api.Product{Kind: api.Purse, Owner: 2, Id: 9, Card: 7, Ver: 1, Value: 500}
	for _, token := range []api.Token{1, 2, 1<<31 - 2, 1<<31 - 1} {
		body, e := bodyOf(p, token)
		if e != api.OK {
			t.Fatalf("P11.2: the token %d: %d", token, e)
		}
		if q, got, e := ipe.Open(body); q != p || got != token || e != api.OK {
			t.Errorf("P11.2: the token %d: %v, %d, %d", token, q, got, e)
		}
	}
	for _, token := range []api.Token{1 << 31, 1<<31 + 1, 1 << 32, 1<<32 + 1, math.MaxInt} {
		if body, e := bodyOf(p, token); len(body) > 0 || e != api.ErrOver {
			t.Errorf("P11.2: the token %d: %x, %d", token, body, e)
		}
	}
}
