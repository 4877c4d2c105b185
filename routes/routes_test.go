package routes

import (
	"math/rand"
	"slices"
	"sort"
	"testing"

	"district/api"
)

func route(addr, length, hop, from int) api.Route {
	return api.Route{Addr: addr, Len: length, Hop: hop, From: from}
}

func put(t *testing.T, l *List, r api.Route, most int, fault api.Errno) {
	t.Helper()
	if e := l.Put(r, most); e != fault {
		t.Errorf("P5: Put(%v, %d) = %d, want %d", r, most, e, fault)
	}
}

func remove(t *testing.T, l *List, addr, length int, fault api.Errno) {
	t.Helper()
	if e := l.Remove(addr, length); e != fault {
		t.Errorf("P5: Remove(%d, %d) = %d, want %d", addr, length, e, fault)
	}
}

// holds tests a list by all its ways of asking.
func holds(t *testing.T, l *List, want ...api.Route) {
	t.Helper()
	all := l.All()
	if !slices.Equal(all, want) || l.Len() != len(want) {
		t.Fatalf("the list is %v, Len %d, want %v", all, l.Len(), want)
	}
	for i, r := range want {
		if l.At(i) != r || !l.Has(r.Addr, r.Len) {
			t.Errorf("place %d: %v, want %v", i, l.At(i), r)
		}
	}
	for _, i := range []int{-1 << 63, -1, len(want), api.MaxRoom, api.MaxRoom + 1, 1<<63 - 1} {
		if l.At(i) != (api.Route{}) {
			t.Errorf("place %d: %v", i, l.At(i))
		}
	}
}

func TestPutAndRemove(t *testing.T) {
	var l List
	holds(t, &l)
	remove(t, &l, 0, 0, api.ErrNone)
	put(t, &l, route(4096, 8, 5, 1), 3, api.OK)
	put(t, &l, route(4096, 4, 7, 1), 3, api.OK)
	put(t, &l, route(0, 0, 9, 1), 3, api.OK)
	holds(t, &l, route(0, 0, 9, 1), route(4096, 4, 7, 1), route(4096, 8, 5, 1))
	put(t, &l, route(4096, 5, 1, 1), 3, api.ErrQuota)
	put(t, &l, route(4096, 4, 0, 2), 3, api.OK)
	put(t, &l, route(4096, 8, 8, 2), 0, api.OK)
	holds(t, &l, route(0, 0, 9, 1), route(4096, 4, 0, 2), route(4096, 8, 8, 2))
	remove(t, &l, 4096, 5, api.ErrNone)
	remove(t, &l, 4096, 4, api.OK)
	remove(t, &l, 4096, 4, api.ErrNone)
	holds(t, &l, route(0, 0, 9, 1), route(4096, 8, 8, 2))
	remove(t, &l, 4096, 8, api.OK)
	remove(t, &l, 0, 0, api.OK)
	holds(t, &l)
	if l != (List{}) {
		t.Errorf("an empty list keeps %v", l)
	}
}

func TestFullList(t *testing.T) {
	var l List
	for i := api.MaxRoom - 1; i >= 0; i-- {
		put(t, &l, route(i, 16, i, 0), 1<<63-1, api.OK)
	}
	before := l
	put(t, &l, route(1000, 16, 1, 0), 1<<63-1, api.ErrQuota)
	put(t, &l, route(0, 0, 1, 0), api.MaxRoom, api.ErrQuota)
	put(t, &l, route(0, 0, 1, 0), -1, api.ErrQuota)
	remove(t, &l, 1000, 16, api.ErrNone)
	if l != before {
		t.Errorf("P1: errors changed the list")
	}
	put(t, &l, route(63, 16, 1, 0), 1, api.OK)
	remove(t, &l, 63, 16, api.OK)
	put(t, &l, route(0, 0, 1, 0), api.MaxRoom, api.OK)
	if l.Len() != api.MaxRoom || l.At(0) != route(0, 0, 1, 0) || l.At(63) != route(62, 16, 62, 0) {
		t.Errorf("the list is %v", l.All())
	}
}

// A copy of a list, and the slices that it gives, have nothing in common with it.
func TestCopies(t *testing.T) {
	var l List
	put(t, &l, route(0, 1, 1, 0), 9, api.OK)
	put(t, &l, route(0, 2, 2, 0), 9, api.OK)
	put(t, &l, route(0, 3, 3, 0), 9, api.OK)
	c := l
	a, b := l.All(), l.All()
	for i := range a[:cap(a)] {
		a[:cap(a)][i] = route(9, 9, 9, 9)
	}
	put(t, &l, route(0, 0, 4, 0), 9, api.OK)
	remove(t, &l, 0, 2, api.OK)
	holds(t, &c, route(0, 1, 1, 0), route(0, 2, 2, 0), route(0, 3, 3, 0))
	holds(t, &l, route(0, 0, 4, 0), route(0, 1, 1, 0), route(0, 3, 3, 0))
	if !slices.Equal(b, c.All()) {
		t.Errorf("P2: a list that came out was changed: %v", b)
	}
}

func before(a, b api.Route) bool {
	return a.Addr < b.Addr || a.Addr == b.Addr && a.Len < b.Len
}

// Routes put and removed by chance, against a slice that is sorted each time.
func TestAgainstSlice(t *testing.T) {
	draw := rand.New(rand.NewSource(5))
	for range 200 {
		var l List
		var plain []api.Route
		most := 1 + draw.Intn(api.MaxRoom)
		for range 300 {
			r := route(draw.Intn(20), draw.Intn(6), draw.Intn(256), draw.Intn(8))
			at := slices.IndexFunc(plain, func(p api.Route) bool { return p.Addr == r.Addr && p.Len == r.Len })
			switch {
			case draw.Intn(3) == 0 && at < 0:
				remove(t, &l, r.Addr, r.Len, api.ErrNone)
			case draw.Intn(3) == 0 && at >= 0:
				remove(t, &l, r.Addr, r.Len, api.OK)
				plain = slices.Delete(plain, at, at+1)
			case at >= 0:
				put(t, &l, r, most, api.OK)
				plain[at] = r
			case len(plain) == most:
				put(t, &l, r, most, api.ErrQuota)
			default:
				put(t, &l, r, most, api.OK)
				plain = append(plain, r)
			}
			sort.Slice(plain, func(i, j int) bool { return before(plain[i], plain[j]) })
			holds(t, &l, plain...)
		}
	}
}

func longest(t *testing.T, l *List, addr int, want api.Route, fault api.Errno) {
	t.Helper()
	if r, e := l.Longest(addr); r != want || e != fault {
		t.Errorf("P8: Longest(%d) = %v, %d, want %v, %d", addr, r, e, want, fault)
	}
}

func leads(t *testing.T, l *List, addr int, want bool) {
	t.Helper()
	if l.Leads(addr) != want {
		t.Errorf("P8: Leads(%d) is not %v", addr, want)
	}
}

func TestLongestAndLeads(t *testing.T) {
	var l List
	longest(t, &l, 0, api.Route{}, api.ErrNone)
	leads(t, &l, 0, false)
	put(t, &l, route(0, 0, 0, 3), 9, api.OK)
	put(t, &l, route(32768, 1, 1, 2), 9, api.OK)
	put(t, &l, route(65535, 16, 0, 1), 9, api.OK)
	longest(t, &l, 0, route(0, 0, 0, 3), api.OK)
	longest(t, &l, 32767, route(0, 0, 0, 3), api.OK)
	longest(t, &l, 32768, route(32768, 1, 1, 2), api.OK)
	longest(t, &l, 65534, route(32768, 1, 1, 2), api.OK)
	longest(t, &l, 65535, route(65535, 16, 0, 1), api.OK)
	leads(t, &l, 32767, false)
	leads(t, &l, 32768, true)
	leads(t, &l, 65535, true)
	for _, n := range []int{-1 << 63, -65536, -1, 65536, 98304, 1<<63 - 1} {
		longest(t, &l, n, api.Route{}, api.ErrNone)
		leads(t, &l, n, false)
	}
	remove(t, &l, 32768, 1, api.OK)
	longest(t, &l, 32768, route(0, 0, 0, 3), api.OK)
	leads(t, &l, 65535, false)
}

// A chain of a route of every length down to one address: each address is told by how
// many bits it has in common with that one.
func TestLongestOfAChain(t *testing.T) {
	for _, end := range []int{0, 65535, 0x5555, 0xaaaa} {
		var l List
		for length := api.Bits; length >= 0; length-- {
			put(t, &l, route(end>>(16-length)<<(16-length), length, length, 0), 64, api.OK)
		}
		for addr := 0; addr <= api.MaxAddr; addr++ {
			common := 16
			for addr>>(16-common) != end>>(16-common) {
				common--
			}
			longest(t, &l, addr, route(end>>(16-common)<<(16-common), common, common, 0), api.OK)
			leads(t, &l, addr, common > 0)
		}
	}
}
