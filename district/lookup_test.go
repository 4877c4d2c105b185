package district_test

import (
	"testing"

	"district/api"
	"district/district"
)

func lookup(t *testing.T, x *district.Engine, token, addr int, want api.Route) {
	t.Helper()
	if r, e := x.Lookup(token, addr); r != want || e != api.OK {
		t.Errorf("P8: Lookup(%d, %d) = %v, %d, want %v", token, addr, r, e, want)
	}
}

func noLookup(t *testing.T, x *district.Engine, token, addr int, fault api.Errno) {
	t.Helper()
	if r, e := x.Lookup(token, addr); r != (api.Route{}) || e != fault {
		t.Errorf("P8: Lookup(%d, %d) = %v, %d, want error %d", token, addr, r, e, fault)
	}
}

func pass(t *testing.T, x *district.Engine, token, addr, hop int, strict, want bool) {
	t.Helper()
	if p, e := x.Pass(token, addr, hop, strict); p != want || e != api.OK {
		t.Errorf("P8: Pass(%d, %d, %d, %v) = %v, %d, want %v", token, addr, hop, strict, p, e, want)
	}
}

// noPass tests that Pass is an error, strict or not.
func noPass(t *testing.T, x *district.Engine, token, addr, hop int, fault api.Errno) {
	t.Helper()
	for _, strict := range []bool{true, false} {
		if p, e := x.Pass(token, addr, hop, strict); p || e != fault {
			t.Errorf("P8: Pass(%d, %d, %d, %v) = %v, %d, want error %d", token, addr, hop, strict, p, e, fault)
		}
	}
}

func TestExampleOfLookups(t *testing.T) {
	x := theTwo(t)
	lookup(t, x, 2, 4097, route(4096, 8, 5, 1))
	lookup(t, x, 2, 8192, route(0, 0, 9, 0))
	pass(t, x, 2, 8192, 9, true, true)
	pass(t, x, 2, 8192, 5, true, false)
	pass(t, x, 2, 8192, 5, false, true)
	noLookup(t, x, 2, 65536, api.ErrArg)
}

// Each route tells of the addresses from its first to its last, but for those of longer ones.
func TestEdgesOfLookup(t *testing.T) {
	x := theTwo(t)
	lookup(t, x, 1, 0, route(0, 0, 9, 0))
	lookup(t, x, 1, 4095, route(0, 0, 9, 0))
	lookup(t, x, 1, 4096, route(4096, 4, 7, 0))
	lookup(t, x, 1, 8191, route(4096, 4, 7, 0))
	lookup(t, x, 1, 8192, route(0, 0, 9, 0))
	lookup(t, x, 1, api.MaxAddr, route(0, 0, 9, 0))
	insert(t, x, 1, api.MaxAddr, api.Bits, 0, api.OK)
	lookup(t, x, 1, api.MaxAddr, route(api.MaxAddr, api.Bits, 0, 0))
	lookup(t, x, 1, api.MaxAddr-1, route(0, 0, 9, 0))
	remove(t, x, 1, 0, 0, api.OK)
	noLookup(t, x, 1, 0, api.ErrNone)
	noLookup(t, x, 1, 4095, api.ErrNone)
	lookup(t, x, 1, 4096, route(4096, 4, 7, 0))
	noLookup(t, x, 1, 8192, api.ErrNone)
	noLookup(t, x, 1, api.MaxAddr-1, api.ErrNone)
	lookup(t, x, 1, api.MaxAddr, route(api.MaxAddr, api.Bits, 0, 0))
}

// Neither a route that finds no room in the table nor one that is not on offer is looked up,
// though it is the longer one.
func TestLookupIsOfTheTable(t *testing.T) {
	x := theTwo(t)
	lookup(t, x, 2, 4352, route(0, 0, 9, 0))
	pass(t, x, 2, 4352, 7, true, false)
	remove(t, x, 2, 4096, 8, api.OK)
	lookup(t, x, 2, 4352, route(4096, 4, 7, 0))
	pass(t, x, 2, 4352, 7, true, true)
	setRules(t, x, 2, api.OK, api.Rule{Allow: true, Le: 3})
	lookup(t, x, 2, 4352, route(0, 0, 9, 0))
	share(t, x, 2, 0, 2, api.OK)
	noLookup(t, x, 2, 4352, api.ErrNone)
	pass(t, x, 2, 4352, 9, true, false)
	pass(t, x, 2, 4352, 9, false, false)
	share(t, x, 2, 0, 1, api.OK)
	setRules(t, x, 2, api.OK)
	insert(t, x, 2, 4096, 4, 3, api.OK)
	lookup(t, x, 2, 4352, route(4096, 4, 3, 1))
	lookup(t, x, 1, 4352, route(4096, 4, 7, 0))
	drop(t, x, 0, api.OK)
	lookup(t, x, 2, 4352, route(4096, 4, 3, 1))
	noLookup(t, x, 2, 8192, api.ErrNone)
	pass(t, x, 2, 8192, 9, false, false)
}

// Strict is about the longest route alone, and never passes the hop 0; what is not strict
// asks nothing of the hop, and of all routes that contain the address.
func TestStrictOrNot(t *testing.T) {
	x := tenants(t, 1, 4)
	for _, hop := range []int{0, 1, api.MaxHop} {
		pass(t, x, 1, 256, hop, true, false)
		pass(t, x, 1, 256, hop, false, false)
	}
	insert(t, x, 1, 256, 16, 0, api.OK)
	insert(t, x, 1, 512, 16, 6, api.OK)
	for _, hop := range []int{0, 1, 6, api.MaxHop} {
		pass(t, x, 1, 256, hop, true, false)
		pass(t, x, 1, 256, hop, false, false)
		pass(t, x, 1, 512, hop, true, hop == 6)
		pass(t, x, 1, 512, hop, false, true)
		pass(t, x, 1, 257, hop, false, false)
	}
	insert(t, x, 1, 256, 8, api.MaxHop, api.OK)
	insert(t, x, 1, 0, 0, 0, api.OK)
	for _, hop := range []int{0, 1, 6, api.MaxHop} {
		pass(t, x, 1, 256, hop, true, false)
		pass(t, x, 1, 256, hop, false, true)
		pass(t, x, 1, 257, hop, true, hop == api.MaxHop)
		pass(t, x, 1, 257, hop, false, true)
		pass(t, x, 1, 1024, hop, true, false)
		pass(t, x, 1, 1024, hop, false, false)
	}
	insert(t, x, 1, 0, 0, 1, api.OK)
	pass(t, x, 1, 256, 1, true, false)
	pass(t, x, 1, 1024, 1, true, true)
	pass(t, x, 1, 1024, 6, false, true)
}

func TestWrongNumbersOfLookup(t *testing.T) {
	x := theTwo(t)
	for _, addr := range []int{least, -65536, -1, api.MaxAddr + 1, 65536 + 4096, 1 << 32, most} {
		noLookup(t, x, 1, addr, api.ErrArg)
		noPass(t, x, 1, addr, 9, api.ErrArg)
	}
	for _, hop := range []int{least, -256, -1, api.MaxHop + 1, 256 + 9, 1 << 32, most} {
		noPass(t, x, 1, 0, hop, api.ErrArg)
		noPass(t, x, 1, -1, hop, api.ErrArg)
	}
	table(t, x, 1, route(0, 0, 9, 0), route(4096, 4, 7, 0))
	table(t, x, 2, route(0, 0, 9, 0), route(4096, 8, 5, 1))
}

// The token comes first, then the right, then the numbers, and what is found at last.
func TestFirstErrorOfLookup(t *testing.T) {
	x := theTwo(t)
	remove(t, x, 1, 0, 0, api.OK)
	for rights := 0; rights <= api.Every; rights++ {
		token := 3 + rights
		derive(t, x, 1, rights, token, api.OK)
		if rights&api.Read == 0 {
			noLookup(t, x, token, 4096, api.ErrRight)
			noLookup(t, x, token, -1, api.ErrRight)
			noPass(t, x, token, 4096, 7, api.ErrRight)
			noPass(t, x, token, -1, 256, api.ErrRight)
			continue
		}
		lookup(t, x, token, 4096, route(4096, 4, 7, 0))
		noLookup(t, x, token, 0, api.ErrNone)
		noLookup(t, x, token, -1, api.ErrArg)
		pass(t, x, token, 4096, 7, true, true)
		noPass(t, x, token, 0, 256, api.ErrArg)
	}
	revoke(t, x, 1, 4, api.OK)
	revoke(t, x, 1, 3, api.OK)
	drop(t, x, 1, api.OK)
	for _, token := range []int{least, -1, 0, 2, 3, 4, 19, 100, 101, most} {
		noLookup(t, x, token, 4096, api.ErrToken)
		noLookup(t, x, token, 65536, api.ErrToken)
		noPass(t, x, token, 4096, 7, api.ErrToken)
		noPass(t, x, token, -1, -1, api.ErrToken)
	}
	create(t, x, 2, 1, 19, api.OK)
	noLookup(t, x, 2, 4096, api.ErrToken)
	noLookup(t, x, 19, 4096, api.ErrNone)
}
