package district_test

import (
	"math/rand"
	"slices"
	"testing"

	"district/api"
	"district/district"
)

// answers are what a token tells of its tenant's table, and of some addresses; raw is what
// requests for the table and the sums are answered.
type answers struct {
	table []api.Route
	sums  api.Sums
	found []told
	raw   []byte
}

// told is what a token tells of an address, with Pass by a hop, strict and not.
type told struct {
	route         api.Route
	fault         api.Errno
	strict, loose bool
}

func askOf(t *testing.T, x *district.Engine, token, addr, hop int) told {
	t.Helper()
	r, e := x.Lookup(token, addr)
	strict, f := x.Pass(token, addr, hop, true)
	loose, g := x.Pass(token, addr, hop, false)
	if e != api.OK && e != api.ErrNone || f != api.OK || g != api.OK {
		t.Fatalf("P8: Lookup(%d, %d) and Pass by %d: %d, %d, %d", token, addr, hop, e, f, g)
	}
	return told{r, e, strict, loose}
}

func ask(t *testing.T, x *district.Engine, token int) answers {
	t.Helper()
	l, e := x.Table(token)
	s, f := x.Count(token)
	if e != api.OK || f != api.OK {
		t.Fatalf("P7: Table(%d) and Count: %d, %d", token, e, f)
	}
	a := answers{table: l, sums: s}
	a.raw = slices.Concat(x.Do(list(api.ReqTable, 0, token)), x.Do(list(api.ReqCount, 0, token)))
	for addr := 0; addr <= api.MaxAddr; addr += 4095 {
		a.found = append(a.found, askOf(t, x, token, addr, addr%4))
	}
	return a
}

func (a answers) equal(b answers) bool {
	return slices.Equal(a.table, b.table) && a.sums == b.sums && slices.Equal(a.found, b.found) && slices.Equal(a.raw, b.raw)
}

// known makes a call with a token of tenants 0 to 2, who give and take by the marks 1 and 2.
func known(r *rand.Rand, x *district.Engine) api.Errno {
	token := 1 + r.Intn(3)
	addr, length := drawPrefix(r)
	switch r.Intn(6) {
	case 0:
		return x.Share(token, r.Intn(4), r.Intn(4))
	case 1:
		return x.Filter(token, drawRules(r))
	case 2:
		return x.Remove(token, addr, length)
	}
	return x.Insert(token, addr, length, drawHop(r))
}

// stranger makes a call with a token of tenant 3, who does not give by the marks 1 and 2.
func stranger(r *rand.Rand, x *district.Engine) {
	token := 4 + r.Intn(2)
	addr, length := drawPrefix(r)
	switch r.Intn(11) {
	case 0:
		x.Share(token, r.Intn(64)*4, r.Intn(256))
	case 1:
		x.Filter(token, drawRules(r))
	case 2:
		x.Remove(token, addr, length)
	case 3:
		x.Table(token)
	case 4:
		x.Revoke(4, 4+r.Intn(3))
	case 5:
		x.Lookup(token, addr)
		x.Pass(token, addr, drawHop(r), true)
	case 6:
		x.Derive(token, r.Intn(16))
	case 7:
		x.Do(list(api.ReqInsert, 0, token, r.Intn(8)*32, 0, r.Intn(6), r.Intn(256)))
	case 8:
		x.Do(list(api.ReqShare, 0, token, r.Intn(64)*4, r.Intn(256), 0)[:4+r.Intn(3)])
	default:
		x.Insert(token, addr, length, drawHop(r))
	}
}

// four is an engine with tenants 0 to 3, and with a second token, 5, of tenant 3.
func four(t *testing.T) *district.Engine {
	t.Helper()
	x := tenants(t, 4, 6)
	derive(t, x, 4, api.Every, 5, api.OK)
	return x
}

// Two engines get the same calls, but one of them a stranger's calls besides: what the
// others are told is the same.
func TestStrangersChangeNothing(t *testing.T) {
	for seed := range int64(60) {
		others := rand.New(rand.NewSource(seed + 1000))
		quiet, loud := four(t), four(t)
		for turn := range int64(120) {
			stranger(others, loud)
			e := known(rand.New(rand.NewSource(seed*1000+turn)), quiet)
			f := known(rand.New(rand.NewSource(seed*1000+turn)), loud)
			if e != f {
				t.Fatalf("P11: seed %d, turn %d: %d, and with a stranger %d", seed, turn, e, f)
			}
			for token := 1; token <= 3; token++ {
				a, b := ask(t, quiet, token), ask(t, loud, token)
				if !a.equal(b) {
					t.Fatalf("P11: seed %d, turn %d: token %d: %v, and with a stranger %v", seed, turn, token, a, b)
				}
			}
		}
	}
}

// A table full of others' routes leaves every own route its place.
func TestOwnRoutesAlwaysFindTheirPlace(t *testing.T) {
	for quota := 1; quota <= 32; quota++ {
		x := tenants(t, 2, quota)
		share(t, x, 1, 1, 0, api.OK)
		share(t, x, 2, 0, 1, api.OK)
		for i := range quota {
			insert(t, x, 1, i, 16, 1, api.OK)
		}
		count(t, x, 2, 0, quota, 0, quota)
		for i := range quota {
			insert(t, x, 2, 1000+i, 16, 2, api.OK)
			count(t, x, 2, i+1, quota-i-1, i+1, quota)
			if l, _ := x.Table(2); len(l) != quota || l[quota-1] != route(1000+i, 16, 2, 1) {
				t.Errorf("P11: quota %d, own route %d: %v", quota, i, l)
			}
		}
		insert(t, x, 2, 0, 16, 2, api.ErrQuota)
	}
}
