package district_test

import (
	"testing"

	"district/api"
	"district/district"
)

const (
	most  = 1<<63 - 1
	least = -1 << 63
)

func begin(t *testing.T, room int) *district.Engine {
	t.Helper()
	x, e := district.New(room)
	if e != api.OK || x == nil {
		t.Fatalf("P3: New(%d) = %v, %d", room, x, e)
	}
	return x
}

func create(t *testing.T, x *district.Engine, quota, number, token int, fault api.Errno) {
	t.Helper()
	if n, k, e := x.Create(quota); n != number || k != token || e != fault {
		t.Errorf("P3: Create(%d) = %d, %d, %d, want %d, %d, %d", quota, n, k, e, number, token, fault)
	}
}

func drop(t *testing.T, x *district.Engine, number int, fault api.Errno) {
	t.Helper()
	if e := x.Drop(number); e != fault {
		t.Errorf("P3: Drop(%d) = %d, want %d", number, e, fault)
	}
}

func derive(t *testing.T, x *district.Engine, token, rights, want int, fault api.Errno) {
	t.Helper()
	if n, e := x.Derive(token, rights); n != want || e != fault {
		t.Errorf("P4: Derive(%d, %d) = %d, %d, want %d, %d", token, rights, n, e, want, fault)
	}
}

func revoke(t *testing.T, x *district.Engine, token, which int, fault api.Errno) {
	t.Helper()
	if e := x.Revoke(token, which); e != fault {
		t.Errorf("P4: Revoke(%d, %d) = %d, want %d", token, which, e, fault)
	}
}

func TestExampleOfTenants(t *testing.T) {
	x := begin(t, 5)
	create(t, x, 0, 0, 0, api.ErrArg)
	create(t, x, 65, 0, 0, api.ErrArg)
	create(t, x, 6, 0, 0, api.ErrRoom)
	create(t, x, 3, 0, 1, api.OK)
	create(t, x, 3, 0, 0, api.ErrRoom)
	create(t, x, 2, 1, 2, api.OK)
	drop(t, x, 0, api.OK)
	create(t, x, 3, 0, 3, api.OK)
	drop(t, x, 2, api.ErrTenant)
	noTable(t, x, 1, api.ErrToken)
}

func TestExampleOfTokens(t *testing.T) {
	x := theTwo(t)
	derive(t, x, 1, 9, 3, api.OK)
	derive(t, x, 3, 1, 4, api.OK)
	derive(t, x, 3, 2, 0, api.ErrRight)
	derive(t, x, 4, 0, 0, api.ErrRight)
	derive(t, x, 1, 16, 0, api.ErrArg)
	insert(t, x, 3, 0, 0, 1, api.ErrRight)
	revoke(t, x, 3, 1, api.ErrRight)
	revoke(t, x, 1, 3, api.OK)
	noTable(t, x, 4, api.ErrToken)
	revoke(t, x, 1, 4, api.OK)
	revoke(t, x, 4, 4, api.ErrToken)
	revoke(t, x, 1, 2, api.ErrRight)
}

func TestRoomOfNew(t *testing.T) {
	for _, room := range []int{least, -1, 0, api.MaxRoom + 1, most} {
		if x, e := district.New(room); x != nil || e != api.ErrArg {
			t.Errorf("P3: New(%d) = %v, %d, want nil, ErrArg", room, x, e)
		}
	}
	for room := 1; room <= api.MaxRoom; room++ {
		x := begin(t, room)
		drop(t, x, 0, api.ErrTenant)
		derive(t, x, 1, 0, 0, api.ErrToken)
		if room < api.MaxRoom {
			create(t, x, room+1, 0, 0, api.ErrRoom)
		}
		create(t, x, room, 0, 1, api.OK)
		create(t, x, 1, 0, 0, api.ErrRoom)
	}
}

func TestNumbersOfTenants(t *testing.T) {
	x := begin(t, api.MaxRoom)
	for i := range api.MaxTenants {
		create(t, x, 1, i, i+1, api.OK)
	}
	create(t, x, 1, 0, 0, api.ErrTenant)
	drop(t, x, 6, api.OK)
	drop(t, x, 2, api.OK)
	drop(t, x, 2, api.ErrTenant)
	for _, n := range []int{least, -1, api.MaxTenants, most} {
		drop(t, x, n, api.ErrTenant)
	}
	create(t, x, 1, 2, 9, api.OK)
	create(t, x, 1, 6, 10, api.OK)
	create(t, x, 1, 0, 0, api.ErrTenant)
}

// A tenant under the number of one that was dropped has nothing of it.
func TestNumberTakenAgain(t *testing.T) {
	x := begin(t, 10)
	create(t, x, 10, 0, 1, api.OK)
	derive(t, x, 1, 15, 2, api.OK)
	drop(t, x, 0, api.OK)
	create(t, x, 4, 0, 3, api.OK)
	derive(t, x, 1, 0, 0, api.ErrToken)
	derive(t, x, 2, 0, 0, api.ErrToken)
	revoke(t, x, 1, 2, api.ErrToken)
	revoke(t, x, 3, 2, api.ErrRight)
	create(t, x, 7, 0, 0, api.ErrRoom)
	create(t, x, 6, 1, 4, api.OK)
	drop(t, x, 0, api.OK)
	derive(t, x, 3, 0, 0, api.ErrToken)
	derive(t, x, 4, 15, 5, api.OK)
}

// Of several errors the one that the document names first.
func TestFirstErrorIsAnswered(t *testing.T) {
	x := begin(t, 8)
	for i := range 8 {
		create(t, x, 1, i, i+1, api.OK)
	}
	create(t, x, 65, 0, 0, api.ErrArg)
	create(t, x, 64, 0, 0, api.ErrTenant)
	derive(t, x, 8, 0, 9, api.OK)
	for n := 10; n <= api.MaxTokens; n++ {
		derive(t, x, 1, 15, n, api.OK)
	}
	create(t, x, 0, 0, 0, api.ErrArg)
	create(t, x, 1, 0, 0, api.ErrTenant)
	drop(t, x, 7, api.OK)
	create(t, x, 2, 0, 0, api.ErrRoom)
	create(t, x, 1, 0, 0, api.ErrTokens)
	derive(t, x, 9, 16, 0, api.ErrToken)
	derive(t, x, 1, 16, 0, api.ErrArg)
	revoke(t, x, 1, 10, api.OK)
	derive(t, x, 10, 16, 0, api.ErrToken)
	derive(t, x, 1, 15, 0, api.ErrTokens)
	revoke(t, x, 10, 10, api.ErrToken)
	revoke(t, x, 101, most, api.ErrToken)
}

func TestRightsComeBeforeTokensLeft(t *testing.T) {
	x := begin(t, 8)
	create(t, x, 1, 0, 1, api.OK)
	derive(t, x, 1, api.Read, 2, api.OK)
	derive(t, x, 1, api.Grant, 3, api.OK)
	derive(t, x, 2, 16, 0, api.ErrArg)
	for n := 4; n <= api.MaxTokens; n++ {
		derive(t, x, 3, 0, n, api.OK)
	}
	derive(t, x, 2, 0, 0, api.ErrRight)
	derive(t, x, 3, api.Read, 0, api.ErrRight)
	derive(t, x, 3, 0, 0, api.ErrTokens)
	revoke(t, x, 2, 2, api.ErrRight)
}

// An engine's answers hang on its own calls alone: two of them, called by turns.
func TestEnginesAreApart(t *testing.T) {
	x := begin(t, 10)
	y := begin(t, 4)
	create(t, x, 10, 0, 1, api.OK)
	create(t, y, 2, 0, 1, api.OK)
	create(t, y, 2, 1, 2, api.OK)
	derive(t, x, 2, 0, 0, api.ErrToken)
	drop(t, x, 1, api.ErrTenant)
	derive(t, x, 1, 15, 2, api.OK)
	revoke(t, y, 1, 2, api.ErrRight)
	drop(t, y, 0, api.OK)
	derive(t, y, 1, 0, 0, api.ErrToken)
	derive(t, x, 1, 0, 3, api.OK)
	revoke(t, x, 1, 2, api.OK)
	derive(t, y, 2, 0, 3, api.OK)
	insert(t, x, 1, 0, 0, 1, api.OK)
	share(t, x, 1, 255, 255, api.OK)
	share(t, y, 2, 255, 255, api.OK)
	setRules(t, x, 1, api.OK, api.Rule{Le: 16})
	table(t, y, 2)
	insert(t, y, 2, 0, 0, 2, api.OK)
	table(t, x, 1, route(0, 0, 1, 0))
	table(t, y, 2, route(0, 0, 2, 1))
	lookup(t, x, 1, 0, route(0, 0, 1, 0))
	lookup(t, y, 2, 0, route(0, 0, 2, 1))
	pass(t, x, 1, 0, 2, true, false)
	pass(t, y, 2, 0, 2, true, true)
}

// Every call at numbers from the whole range: none may panic, and each must end.
func TestAllNumbers(t *testing.T) {
	numbers := []int{least, least + 1, -65536, -256, -1, 0, 1, 2, 3, 4, 7, 8, 9, 15, 16, 17, 63, 64, 65, 99, 100, 101, 255, 256, 65535, 65536, 1 << 31, most - 1, most}
	x := begin(t, 10)
	create(t, x, 3, 0, 1, api.OK)
	create(t, x, 2, 1, 2, api.OK)
	derive(t, x, 1, 15, 3, api.OK)
	for _, a := range numbers {
		district.New(a)
		x.Table(a)
		x.Count(a)
		x.Filter(a, nil)
		for _, b := range numbers {
			x.Derive(a, b)
			x.Lookup(a, b)
			x.Filter(a, []api.Rule{{Allow: true, Addr: b, Len: a, Ge: b, Le: a}})
			for _, c := range numbers {
				x.Remove(a, b, c)
				x.Share(a, b, c)
				x.Insert(a, b, c, a)
				x.Pass(a, b, c, true)
				x.Pass(a, b, c, false)
			}
		}
	}
	for _, a := range numbers {
		for _, b := range numbers {
			x.Revoke(a, b)
		}
		x.Create(a)
		x.Drop(a)
	}
	x.Do(nil)
	x.Do([]byte{})
	for a := range 256 {
		x.Do([]byte{byte(a)})
		x.Do([]byte{byte(a), 255, 255, 255})
	}
}
