package tokens

import (
	"testing"

	"district/api"
)

// far are numbers that no token and no set of rights has.
var far = []int{-1 << 63, -1, 16, 101, 1<<63 - 1}

func first(t *testing.T, b *Book, tenant, want int) {
	t.Helper()
	if n, e := b.First(tenant); n != want || e != api.OK {
		t.Fatalf("P3: First(%d) = %d, %d, want %d", tenant, n, e, want)
	}
}

func derive(t *testing.T, b *Book, token, rights, want int, fault api.Errno) {
	t.Helper()
	if n, e := b.Derive(token, rights); n != want || e != fault {
		t.Errorf("P4: Derive(%d, %d) = %d, %d, want %d, %d", token, rights, n, e, want, fault)
	}
}

func revoke(t *testing.T, b *Book, token, which int, fault api.Errno) {
	t.Helper()
	if e := b.Revoke(token, which); e != fault {
		t.Errorf("P4: Revoke(%d, %d) = %d, want %d", token, which, e, fault)
	}
}

// tree gives out 1 and 2 as first tokens, 3 and 4 made out of 1, 5 made out of 3, 6 made out of 5.
func tree(t *testing.T) *Book {
	t.Helper()
	b := &Book{}
	first(t, b, 0, 1)
	first(t, b, 1, 2)
	derive(t, b, 1, api.Every, 3, api.OK)
	derive(t, b, 1, api.Every, 4, api.OK)
	derive(t, b, 3, api.Every, 5, api.OK)
	derive(t, b, 5, api.Every, 6, api.OK)
	return b
}

func wantAlive(t *testing.T, b *Book, want ...int) {
	t.Helper()
	next := 0
	for n := -1; n <= api.MaxTokens+1; n++ {
		listed := next < len(want) && want[next] == n
		if listed {
			next++
		}
		if b.alive(n) != listed {
			t.Errorf("P4: token %d: alive is %v, want %v", n, !listed, listed)
		}
	}
}

func TestRevokeEndsTheTokenAndThoseMadeOutOfIt(t *testing.T) {
	b := tree(t)
	wantAlive(t, b, 1, 2, 3, 4, 5, 6)
	revoke(t, b, 1, 5, api.OK)
	wantAlive(t, b, 1, 2, 3, 4)
	revoke(t, b, 1, 3, api.OK)
	wantAlive(t, b, 1, 2, 4)
	revoke(t, b, 1, 6, api.OK)
	revoke(t, b, 1, 3, api.OK)
	wantAlive(t, b, 1, 2, 4)
}

func TestRevokeReachesDownAlone(t *testing.T) {
	b := tree(t)
	down := [7][7]bool{1: {3: true, 4: true, 5: true, 6: true}, 3: {5: true, 6: true}, 5: {6: true}}
	for token := 1; token <= 6; token++ {
		for which := 1; which <= 6; which++ {
			c := *b
			want := api.ErrRight
			if down[token][which] {
				want = api.OK
			}
			revoke(t, &c, token, which, want)
			if want != api.OK && c != *b {
				t.Errorf("P1: Revoke(%d, %d) answered an error and changed the book", token, which)
			}
		}
	}
}

func TestEndAll(t *testing.T) {
	b := tree(t)
	b.EndAll(0)
	wantAlive(t, b, 2)
	first(t, b, 0, 7)
	derive(t, b, 7, api.Grant, 8, api.OK)
	wantAlive(t, b, 2, 7, 8)
	revoke(t, b, 7, 3, api.ErrRight)
	for _, n := range far {
		b.EndAll(n)
	}
	wantAlive(t, b, 2, 7, 8)
	b.EndAll(1)
	wantAlive(t, b, 7, 8)
}

// Of all sets of rights: what comes of deriving each out of each.
func TestRightsOfDerived(t *testing.T) {
	for has := 0; has <= api.Every; has++ {
		for asked := 0; asked <= api.Every; asked++ {
			b := &Book{}
			first(t, b, 0, 1)
			derive(t, b, 1, has, 2, api.OK)
			if has&api.Grant != 0 && asked&^has == 0 {
				derive(t, b, 2, asked, 3, api.OK)
			} else {
				derive(t, b, 2, asked, 0, api.ErrRight)
			}
		}
	}
}

func tenant(t *testing.T, b *Book, token, rights, want int, fault api.Errno) {
	t.Helper()
	if n, e := b.Tenant(token, rights); n != want || e != fault {
		t.Errorf("P4: Tenant(%d, %d) = %d, %d, want %d, %d", token, rights, n, e, want, fault)
	}
}

// A call with a token is about its tenant, if the token has all of the rights.
func TestTenant(t *testing.T) {
	b := tree(t)
	for rights := 0; rights <= api.Every; rights++ {
		tenant(t, b, 2, rights, 1, api.OK)
		tenant(t, b, 6, rights, 0, api.OK)
		derive(t, b, 2, rights, 7+rights, api.OK)
	}
	for has := 0; has <= api.Every; has++ {
		for asked := 0; asked <= api.Every; asked++ {
			if asked&^has == 0 {
				tenant(t, b, 7+has, asked, 1, api.OK)
			} else {
				tenant(t, b, 7+has, asked, 0, api.ErrRight)
			}
		}
	}
	revoke(t, b, 2, 7, api.OK)
	tenant(t, b, 7, 0, 0, api.ErrToken)
	tenant(t, b, 7, api.Every, 0, api.ErrToken)
}

func TestWrongNumbers(t *testing.T) {
	b := &Book{}
	tenant(t, b, 1, 0, 0, api.ErrToken)
	derive(t, b, 1, 0, 0, api.ErrToken)
	revoke(t, b, 1, 1, api.ErrToken)
	b = tree(t)
	before := *b
	for _, n := range append([]int{0, 7}, far...) {
		tenant(t, b, n, n, 0, api.ErrToken)
		derive(t, b, n, n, 0, api.ErrToken)
		revoke(t, b, n, n, api.ErrToken)
		revoke(t, b, 1, n, api.ErrRight)
	}
	for _, n := range far {
		derive(t, b, 1, n, 0, api.ErrArg)
	}
	if *b != before {
		t.Errorf("P1: errors changed the book")
	}
}

func TestNoMoreThanMaxTokens(t *testing.T) {
	b := &Book{}
	for n := 1; n <= api.MaxTokens; n++ {
		first(t, b, n%api.MaxTenants, n)
	}
	before := *b
	if n, e := b.First(0); n != 0 || e != api.ErrTokens {
		t.Errorf("P3: First in a full book = %d, %d", n, e)
	}
	derive(t, b, api.MaxTokens, 0, 0, api.ErrTokens)
	if *b != before {
		t.Errorf("P1: errors changed the book")
	}
}
