package district_test

import (
	"slices"
	"testing"

	"district/api"
	"district/district"
)

func insert(t *testing.T, x *district.Engine, token, addr, length, hop int, fault api.Errno) {
	t.Helper()
	if e := x.Insert(token, addr, length, hop); e != fault {
		t.Errorf("P5: Insert(%d, %d, %d, %d) = %d, want %d", token, addr, length, hop, e, fault)
	}
}

func remove(t *testing.T, x *district.Engine, token, addr, length int, fault api.Errno) {
	t.Helper()
	if e := x.Remove(token, addr, length); e != fault {
		t.Errorf("P5: Remove(%d, %d, %d) = %d, want %d", token, addr, length, e, fault)
	}
}

func share(t *testing.T, x *district.Engine, token, gives, takes int, fault api.Errno) {
	t.Helper()
	if e := x.Share(token, gives, takes); e != fault {
		t.Errorf("P6: Share(%d, %d, %d) = %d, want %d", token, gives, takes, e, fault)
	}
}

func setRules(t *testing.T, x *district.Engine, token int, fault api.Errno, rules ...api.Rule) {
	t.Helper()
	if e := x.Filter(token, rules); e != fault {
		t.Errorf("P6: Filter(%d, %v) = %d, want %d", token, rules, e, fault)
	}
}

func table(t *testing.T, x *district.Engine, token int, want ...api.Route) {
	t.Helper()
	if l, e := x.Table(token); e != api.OK || !slices.Equal(l, want) {
		t.Errorf("P7: Table(%d) = %v, %d, want %v", token, l, e, want)
	}
}

func noTable(t *testing.T, x *district.Engine, token int, fault api.Errno) {
	t.Helper()
	if l, e := x.Table(token); l != nil || e != fault {
		t.Errorf("P7: Table(%d) = %v, %d, want error %d", token, l, e, fault)
	}
	if s, e := x.Count(token); s != (api.Sums{}) || e != fault {
		t.Errorf("P7: Count(%d) = %v, %d, want error %d", token, s, e, fault)
	}
}

func count(t *testing.T, x *district.Engine, token, own, taken, dropped, quota int) {
	t.Helper()
	want := api.Sums{Own: own, Taken: taken, Dropped: dropped, Quota: quota}
	if s, e := x.Count(token); e != api.OK || s != want {
		t.Errorf("P7: Count(%d) = %v, %d, want %v", token, s, e, want)
	}
}

func route(addr, length, hop, from int) api.Route {
	return api.Route{Addr: addr, Len: length, Hop: hop, From: from}
}

// tenants is an engine of room 64 with some tenants of a quota: token i+1 is that of tenant i.
func tenants(t *testing.T, number, quota int) *district.Engine {
	t.Helper()
	x := begin(t, api.MaxRoom)
	for i := range number {
		create(t, x, quota, i, i+1, api.OK)
	}
	return x
}

// theTwo are the two of the document's examples.
func theTwo(t *testing.T) *district.Engine {
	t.Helper()
	x := begin(t, 10)
	create(t, x, 3, 0, 1, api.OK)
	create(t, x, 2, 1, 2, api.OK)
	insert(t, x, 1, 0, 0, 9, api.OK)
	insert(t, x, 1, 4096, 4, 7, api.OK)
	share(t, x, 1, 1, 0, api.OK)
	insert(t, x, 2, 4096, 8, 5, api.OK)
	share(t, x, 2, 0, 1, api.OK)
	return x
}

func TestExampleOfTables(t *testing.T) {
	x := theTwo(t)
	table(t, x, 1, route(0, 0, 9, 0), route(4096, 4, 7, 0))
	count(t, x, 1, 2, 0, 0, 3)
	table(t, x, 2, route(0, 0, 9, 0), route(4096, 8, 5, 1))
	count(t, x, 2, 1, 1, 1, 2)
	insert(t, x, 2, 0, 0, 1, api.OK)
	table(t, x, 2, route(0, 0, 1, 1), route(4096, 8, 5, 1))
	count(t, x, 2, 2, 0, 1, 2)
	insert(t, x, 2, 1, 16, 1, api.ErrQuota)
	insert(t, x, 2, 0, 0, 2, api.OK)
	remove(t, x, 2, 0, 0, api.OK)
	remove(t, x, 2, 0, 0, api.ErrNone)
	table(t, x, 2, route(0, 0, 9, 0), route(4096, 8, 5, 1))
}

func TestExampleOfPrefixes(t *testing.T) {
	x := theTwo(t)
	insert(t, x, 1, 1, 15, 1, api.ErrArg)
	insert(t, x, 1, 2, 15, 1, api.OK)
	insert(t, x, 1, 0, 17, 1, api.ErrArg)
	insert(t, x, 1, 0, 0, 256, api.ErrArg)
	table(t, x, 1, route(0, 0, 9, 0), route(2, 15, 1, 0), route(4096, 4, 7, 0))
}

func TestExampleOfFilters(t *testing.T) {
	x := theTwo(t)
	setRules(t, x, 2, api.OK, api.Rule{Allow: true, Addr: 4096, Len: 4, Ge: 4, Le: 8})
	table(t, x, 2, route(4096, 4, 7, 0), route(4096, 8, 5, 1))
	count(t, x, 2, 1, 1, 0, 2)
	setRules(t, x, 2, api.OK, api.Rule{Addr: 4096, Len: 4, Ge: 4, Le: 4}, api.Rule{Allow: true, Le: 16})
	table(t, x, 2, route(0, 0, 9, 0), route(4096, 8, 5, 1))
	count(t, x, 2, 1, 1, 0, 2)
}

// The edges of a prefix and of a hop; what is refused changes nothing.
func TestNumbersOfARoute(t *testing.T) {
	x := tenants(t, 1, 64)
	for length := 0; length <= api.Bits; length++ {
		last := api.MaxAddr >> (16 - length) << (16 - length)
		insert(t, x, 1, last, length, length, api.OK)
		if length < api.Bits {
			insert(t, x, 1, last|1<<(15-length), length, 1, api.ErrArg)
			insert(t, x, 1, last|1, length, 1, api.ErrArg)
			remove(t, x, 1, last|1, length, api.ErrArg)
		}
		insert(t, x, 1, last+api.MaxAddr+1, length, 1, api.ErrArg)
		insert(t, x, 1, last-api.MaxAddr-1, length, 1, api.ErrArg)
		remove(t, x, 1, last+api.MaxAddr+1, length, api.ErrArg)
		remove(t, x, 1, last-api.MaxAddr-1, length, api.ErrArg)
	}
	for _, length := range []int{least, -1, 17, 64, most} {
		insert(t, x, 1, 0, length, 1, api.ErrArg)
		remove(t, x, 1, 0, length, api.ErrArg)
	}
	for _, hop := range []int{least, -1, 256, most} {
		insert(t, x, 1, 0, 0, hop, api.ErrArg)
		insert(t, x, 1, 1, 16, hop, api.ErrArg)
	}
	var want []api.Route
	for length := range 17 {
		want = append(want, route(api.MaxAddr>>(16-length)<<(16-length), length, length, 0))
	}
	table(t, x, 1, want...)
	insert(t, x, 1, 0, 0, 255, api.OK)
	insert(t, x, 1, 65535, 16, 0, api.OK)
	want[0].Hop, want[16].Hop = 255, 0
	table(t, x, 1, want...)
	count(t, x, 1, 17, 0, 0, 64)
}

// An address with several lengths, and the routes of two tenants of one prefix, are apart.
func TestRemoveTakesOneRoute(t *testing.T) {
	x := tenants(t, 2, 4)
	for length := 4; length > 1; length-- {
		insert(t, x, 1, 16384, length, length, api.OK)
	}
	insert(t, x, 2, 16384, 3, 33, api.OK)
	remove(t, x, 1, 16384, 5, api.ErrNone)
	remove(t, x, 1, 32768, 3, api.ErrNone)
	remove(t, x, 1, 16384, 3, api.OK)
	remove(t, x, 1, 16384, 3, api.ErrNone)
	remove(t, x, 2, 16384, 2, api.ErrNone)
	table(t, x, 1, route(16384, 2, 2, 0), route(16384, 4, 4, 0))
	table(t, x, 2, route(16384, 3, 33, 1))
}

func TestQuotaOfOwnRoutes(t *testing.T) {
	for _, quota := range []int{1, 2, 63, 64} {
		x := tenants(t, 1, quota)
		for i := quota; i > 0; i-- {
			insert(t, x, 1, i, 16, i, api.OK)
		}
		count(t, x, 1, quota, 0, 0, quota)
		insert(t, x, 1, 0, 0, 1, api.ErrQuota)
		insert(t, x, 1, 100, 16, 1, api.ErrQuota)
		insert(t, x, 1, quota, 16, 200, api.OK)
		insert(t, x, 1, 1, 0, 1, api.ErrArg)
		insert(t, x, 1, 0, 0, 256, api.ErrArg)
		remove(t, x, 1, 1, 16, api.OK)
		insert(t, x, 1, 0, 0, 1, api.OK)
		insert(t, x, 1, 1, 16, 1, api.ErrQuota)
		count(t, x, 1, quota, 0, 0, quota)
	}
}

// Each call asks for its right alone, and the right comes before the arguments.
func TestRightsOfCalls(t *testing.T) {
	for rights := 0; rights <= api.Every; rights++ {
		x := theTwo(t)
		derive(t, x, 1, rights, 3, api.OK)
		write, policy := api.ErrRight, api.ErrRight
		if rights&api.Write != 0 {
			write = api.OK
		}
		if rights&api.Policy != 0 {
			policy = api.OK
		}
		insert(t, x, 3, 0, 0, 9, write)
		insert(t, x, 3, 0, 1, 1, write)
		remove(t, x, 3, 0, 1, write)
		share(t, x, 3, 1, 0, policy)
		setRules(t, x, 3, policy)
		if rights&api.Read != 0 {
			table(t, x, 3, route(0, 0, 9, 0), route(4096, 4, 7, 0))
			count(t, x, 3, 2, 0, 0, 3)
		} else {
			noTable(t, x, 3, api.ErrRight)
		}
		if write != api.OK {
			insert(t, x, 3, 1, 0, 256, api.ErrRight)
			remove(t, x, 3, 1, 0, api.ErrRight)
			remove(t, x, 3, 1, 16, api.ErrRight)
		}
		if policy != api.OK {
			share(t, x, 3, 256, -1, api.ErrRight)
			setRules(t, x, 3, api.ErrRight, api.Rule{Le: 17})
		}
		table(t, x, 1, route(0, 0, 9, 0), route(4096, 4, 7, 0))
		table(t, x, 2, route(0, 0, 9, 0), route(4096, 8, 5, 1))
	}
}

// A token that is not alive comes before every other error.
func TestTokensOfCalls(t *testing.T) {
	x := theTwo(t)
	derive(t, x, 1, api.Grant, 3, api.OK)
	revoke(t, x, 1, 3, api.OK)
	create(t, x, 1, 2, 4, api.OK)
	drop(t, x, 2, api.OK)
	create(t, x, 1, 2, 5, api.OK)
	for _, token := range []int{least, -1, 0, 3, 4, 6, 100, 101, most} {
		insert(t, x, token, 0, 0, 1, api.ErrToken)
		insert(t, x, token, 1, 0, 256, api.ErrToken)
		remove(t, x, token, 0, 0, api.ErrToken)
		remove(t, x, token, 1, 0, api.ErrToken)
		share(t, x, token, 0, 0, api.ErrToken)
		share(t, x, token, 256, 256, api.ErrToken)
		setRules(t, x, token, api.ErrToken)
		setRules(t, x, token, api.ErrToken, make([]api.Rule, 5)...)
		noTable(t, x, token, api.ErrToken)
	}
	table(t, x, 2, route(0, 0, 9, 0), route(4096, 8, 5, 1))
	table(t, x, 5)
	count(t, x, 5, 0, 0, 0, 1)
}

// Of all pairs of single marks: a route is on offer where giver and taker have one in common.
func TestMarks(t *testing.T) {
	x := tenants(t, 2, 2)
	insert(t, x, 1, 0, 0, 9, api.OK)
	for gives := 1; gives <= 128; gives *= 2 {
		for takes := 1; takes <= 128; takes *= 2 {
			share(t, x, 1, gives, 0, api.OK)
			share(t, x, 2, 0, takes, api.OK)
			if gives == takes {
				table(t, x, 2, route(0, 0, 9, 0))
			} else {
				table(t, x, 2)
			}
			share(t, x, 2, 0, api.MaxMask-takes, api.OK)
			if gives == takes {
				table(t, x, 2)
			} else {
				table(t, x, 2, route(0, 0, 9, 0))
			}
			share(t, x, 1, 0, gives, api.OK)
			table(t, x, 2)
		}
	}
	share(t, x, 1, 0, 255, api.OK)
	share(t, x, 2, 255, 0, api.OK)
	table(t, x, 2)
	table(t, x, 1, route(0, 0, 9, 0))
	share(t, x, 1, 255, 0, api.OK)
	share(t, x, 2, 0, 255, api.OK)
	table(t, x, 2, route(0, 0, 9, 0))
}

func TestWrongMarksChangeNothing(t *testing.T) {
	x := theTwo(t)
	for _, n := range []int{least, -1, 256, 257, most} {
		share(t, x, 1, n, 0, api.ErrArg)
		share(t, x, 1, 0, n, api.ErrArg)
		share(t, x, 2, n, 0, api.ErrArg)
		share(t, x, 2, 0, n, api.ErrArg)
		share(t, x, 2, n, n, api.ErrArg)
	}
	table(t, x, 2, route(0, 0, 9, 0), route(4096, 8, 5, 1))
}

func TestWrongRulesChangeNothing(t *testing.T) {
	x := theTwo(t)
	good := api.Rule{Allow: true, Addr: 4096, Len: 4, Ge: 4, Le: 4}
	setRules(t, x, 2, api.OK, good)
	wrong := []api.Rule{
		{Allow: true, Addr: 1, Len: 0, Ge: 0, Le: 16}, {Allow: true, Addr: 65536, Len: 0, Ge: 0, Le: 16},
		{Allow: true, Addr: 0, Len: -1, Ge: 0, Le: 16}, {Allow: true, Addr: 0, Len: 17, Ge: 17, Le: 17},
		{Allow: true, Addr: 0, Len: 1, Ge: 0, Le: 16}, {Allow: true, Addr: 0, Len: 0, Ge: 1, Le: 0},
		{Allow: true, Addr: 0, Len: 0, Ge: 0, Le: 17}, {Allow: true, Addr: most, Len: least, Ge: least, Le: most},
	}
	for _, w := range wrong {
		setRules(t, x, 2, api.ErrArg, w)
		setRules(t, x, 2, api.ErrArg, api.Rule{Allow: true, Le: 16}, w)
	}
	all := api.Rule{Allow: true, Le: 16}
	setRules(t, x, 2, api.ErrArg, all, all, all, all, all)
	table(t, x, 2, route(4096, 4, 7, 0), route(4096, 8, 5, 1))
	count(t, x, 2, 1, 1, 0, 2)
	setRules(t, x, 2, api.OK, good, all, all, all)
	count(t, x, 2, 1, 1, 1, 2)
}

// The rules that were there before are gone, and a filter without rules lets all in.
func TestRulesTakeThePlaceOfOthers(t *testing.T) {
	x := theTwo(t)
	none := api.Rule{Le: 16}
	setRules(t, x, 2, api.OK, none, none, none, none)
	count(t, x, 2, 1, 0, 0, 2)
	setRules(t, x, 2, api.OK, api.Rule{Allow: true, Addr: 4096, Len: 4, Ge: 4, Le: 16})
	count(t, x, 2, 1, 1, 0, 2)
	for _, empty := range [][]api.Rule{nil, {}, {none}} {
		setRules(t, x, 2, api.OK, empty[:0]...)
		count(t, x, 2, 1, 1, 1, 2)
		setRules(t, x, 2, api.OK, none)
		count(t, x, 2, 1, 0, 0, 2)
	}
}

// A filter is about what its tenant takes: neither its own routes nor what it gives.
func TestFilterIsTheTakersAlone(t *testing.T) {
	x := theTwo(t)
	setRules(t, x, 1, api.OK, api.Rule{Le: 16})
	table(t, x, 1, route(0, 0, 9, 0), route(4096, 4, 7, 0))
	table(t, x, 2, route(0, 0, 9, 0), route(4096, 8, 5, 1))
	setRules(t, x, 2, api.OK, api.Rule{Le: 16})
	table(t, x, 2, route(4096, 8, 5, 1))
	insert(t, x, 2, 0, 1, 3, api.OK)
	table(t, x, 2, route(0, 1, 3, 1), route(4096, 8, 5, 1))
}

// Of several routes of one prefix that of the least number among those that give.
func TestLeastNumberAlone(t *testing.T) {
	x := tenants(t, 5, 4)
	for _, token := range []int{4, 2, 5, 3} {
		share(t, x, token, 1, 0, api.OK)
		insert(t, x, token, 8192, 3, token, api.OK)
	}
	share(t, x, 1, 0, 1, api.OK)
	table(t, x, 1, route(8192, 3, 2, 1))
	count(t, x, 1, 0, 1, 0, 4)
	share(t, x, 2, 2, 0, api.OK)
	table(t, x, 1, route(8192, 3, 3, 2))
	remove(t, x, 3, 8192, 3, api.OK)
	table(t, x, 1, route(8192, 3, 4, 3))
	drop(t, x, 3, api.OK)
	table(t, x, 1, route(8192, 3, 5, 4))
	share(t, x, 2, 3, 0, api.OK)
	insert(t, x, 2, 8192, 3, 0, api.OK)
	table(t, x, 1, route(8192, 3, 0, 1))
	insert(t, x, 1, 8192, 3, 1, api.OK)
	table(t, x, 1, route(8192, 3, 1, 0))
	count(t, x, 1, 1, 0, 0, 4)
	remove(t, x, 1, 8192, 3, api.OK)
	table(t, x, 1, route(8192, 3, 0, 1))
}

// A giver with a greater number than the taker's, and the other way round.
func TestBothWays(t *testing.T) {
	x := tenants(t, 2, 4)
	share(t, x, 1, 4, 8, api.OK)
	share(t, x, 2, 8, 4, api.OK)
	insert(t, x, 1, 0, 1, 1, api.OK)
	insert(t, x, 1, 0, 2, 2, api.OK)
	insert(t, x, 2, 0, 2, 3, api.OK)
	insert(t, x, 2, 0, 3, 4, api.OK)
	table(t, x, 1, route(0, 1, 1, 0), route(0, 2, 2, 0), route(0, 3, 4, 1))
	table(t, x, 2, route(0, 1, 1, 0), route(0, 2, 3, 1), route(0, 3, 4, 1))
	share(t, x, 1, 4, 4, api.OK)
	table(t, x, 1, route(0, 1, 1, 0), route(0, 2, 2, 0))
	count(t, x, 1, 2, 0, 0, 4)
}

func TestTakenIsNotGivenOn(t *testing.T) {
	x := tenants(t, 3, 4)
	insert(t, x, 1, 0, 0, 1, api.OK)
	share(t, x, 1, 1, 0, api.OK)
	share(t, x, 2, 255-1, 1, api.OK)
	share(t, x, 3, 0, 255-1, api.OK)
	table(t, x, 2, route(0, 0, 1, 0))
	table(t, x, 3)
	count(t, x, 3, 0, 0, 0, 4)
}

// The first in the order of prefixes find room, whoever gives them and whenever they came.
func TestFirstPrefixesFindRoom(t *testing.T) {
	x := tenants(t, 3, 3)
	share(t, x, 1, 0, 1, api.OK)
	share(t, x, 2, 1, 0, api.OK)
	share(t, x, 3, 1, 0, api.OK)
	insert(t, x, 2, 4096, 8, 1, api.OK)
	insert(t, x, 2, 8192, 8, 2, api.OK)
	insert(t, x, 2, 0, 8, 3, api.OK)
	insert(t, x, 3, 4096, 9, 4, api.OK)
	insert(t, x, 3, 4096, 7, 5, api.OK)
	insert(t, x, 3, 0, 9, 6, api.OK)
	table(t, x, 1, route(0, 8, 3, 1), route(0, 9, 6, 2), route(4096, 7, 5, 2))
	count(t, x, 1, 0, 3, 3, 3)
	insert(t, x, 1, 65535, 16, 7, api.OK)
	table(t, x, 1, route(0, 8, 3, 1), route(0, 9, 6, 2), route(65535, 16, 7, 0))
	count(t, x, 1, 1, 2, 4, 3)
	insert(t, x, 1, 0, 8, 8, api.OK)
	table(t, x, 1, route(0, 8, 8, 0), route(0, 9, 6, 2), route(65535, 16, 7, 0))
	count(t, x, 1, 2, 1, 4, 3)
	insert(t, x, 1, 0, 0, 9, api.OK)
	table(t, x, 1, route(0, 0, 9, 0), route(0, 8, 8, 0), route(65535, 16, 7, 0))
	count(t, x, 1, 3, 0, 5, 3)
	remove(t, x, 1, 0, 8, api.OK)
	remove(t, x, 1, 0, 0, api.OK)
	remove(t, x, 1, 65535, 16, api.OK)
	count(t, x, 1, 0, 3, 3, 3)
}

// As many routes on offer as there can be, to one tenant with room for one, and for all.
func TestMostOffers(t *testing.T) {
	x := begin(t, api.MaxRoom)
	create(t, x, 1, 0, 1, api.OK)
	for i := 1; i < api.MaxTenants; i++ {
		create(t, x, 9, i, i+1, api.OK)
		share(t, x, i+1, 128, 0, api.OK)
		for j := range 9 {
			insert(t, x, i+1, 9*i+j, 16, j, api.OK)
		}
	}
	share(t, x, 1, 0, 128, api.OK)
	table(t, x, 1, route(9, 16, 0, 1))
	count(t, x, 1, 0, 1, 62, 1)
	insert(t, x, 1, 65535, 16, 1, api.OK)
	table(t, x, 1, route(65535, 16, 1, 0))
	count(t, x, 1, 1, 0, 63, 1)
	x = tenants(t, 2, 32)
	share(t, x, 1, 0, 1, api.OK)
	share(t, x, 2, 1, 0, api.OK)
	for i := range 32 {
		insert(t, x, 2, i, 16, i, api.OK)
	}
	count(t, x, 1, 0, 32, 0, 32)
}

// Behind Drop the tokens are dead and the routes in no table; who gets the number has nothing.
func TestDropTakesRoutesAway(t *testing.T) {
	x := theTwo(t)
	derive(t, x, 1, api.Every, 3, api.OK)
	setRules(t, x, 1, api.OK, api.Rule{Le: 16})
	share(t, x, 1, 1, 255, api.OK)
	share(t, x, 2, 2, 1, api.OK)
	drop(t, x, 0, api.OK)
	table(t, x, 2, route(4096, 8, 5, 1))
	count(t, x, 2, 1, 0, 0, 2)
	noTable(t, x, 1, api.ErrToken)
	noTable(t, x, 3, api.ErrToken)
	insert(t, x, 1, 0, 0, 1, api.ErrToken)
	create(t, x, 4, 0, 4, api.OK)
	table(t, x, 4)
	count(t, x, 4, 0, 0, 0, 4)
	remove(t, x, 4, 0, 0, api.ErrNone)
	insert(t, x, 4, 0, 0, 8, api.OK)
	table(t, x, 2, route(4096, 8, 5, 1))
	share(t, x, 4, 1, 2, api.OK)
	table(t, x, 2, route(0, 0, 8, 0), route(4096, 8, 5, 1))
	table(t, x, 4, route(0, 0, 8, 0), route(4096, 8, 5, 1))
	noTable(t, x, 1, api.ErrToken)
}

// A tenant whose token ends goes on: its routes stand, and others take them.
func TestRoutesOutliveTokens(t *testing.T) {
	x := theTwo(t)
	derive(t, x, 1, api.Every, 3, api.OK)
	insert(t, x, 3, 0, 1, 4, api.OK)
	share(t, x, 3, 2, 0, api.OK)
	revoke(t, x, 1, 3, api.OK)
	insert(t, x, 3, 0, 2, 4, api.ErrToken)
	table(t, x, 1, route(0, 0, 9, 0), route(0, 1, 4, 0), route(4096, 4, 7, 0))
	table(t, x, 2, route(4096, 8, 5, 1))
	share(t, x, 2, 0, 2, api.OK)
	table(t, x, 2, route(0, 0, 9, 0), route(4096, 8, 5, 1))
}

// scribble writes into a list and into its spare room.
func scribble(l []api.Route) {
	l = l[:cap(l)]
	for i := range l {
		l[i] = route(-7, -7, -7, -7)
	}
}

// Tables that come out are fresh: one written into changes neither the engine nor another.
func TestTablesAreFresh(t *testing.T) {
	x := theTwo(t)
	insert(t, x, 1, 0, 6, 1, api.OK)
	first, _ := x.Table(1)
	second, _ := x.Table(1)
	other, _ := x.Table(2)
	kept := slices.Clone(second)
	keptOther := slices.Clone(other)
	scribble(first)
	if !slices.Equal(second, kept) || !slices.Equal(other, keptOther) {
		t.Errorf("P2: two tables have a place in common: %v, %v", second, other)
	}
	table(t, x, 1, kept...)
	table(t, x, 2, keptOther...)
	scribble(other)
	remove(t, x, 1, 0, 0, api.OK)
	insert(t, x, 1, 0, 0, 9, api.OK)
	if !slices.Equal(second, kept) {
		t.Errorf("P2: a call changed a table that had come out: %v", second)
	}
	table(t, x, 1, kept...)
	table(t, x, 2, keptOther...)
}

// The rules are the caller's: the engine keeps none of the list.
func TestRulesHandedIn(t *testing.T) {
	x := theTwo(t)
	good := api.Rule{Allow: true, Addr: 4096, Len: 4, Ge: 4, Le: 8}
	rules := []api.Rule{good, good, good}
	setRules(t, x, 2, api.OK, rules[:1]...)
	if !slices.Equal(rules, []api.Rule{good, good, good}) {
		t.Errorf("P2: Filter wrote into the rules: %v", rules)
	}
	for i := range rules {
		rules[i] = api.Rule{Le: 16}
	}
	table(t, x, 2, route(4096, 4, 7, 0), route(4096, 8, 5, 1))
	count(t, x, 2, 1, 1, 0, 2)
}
