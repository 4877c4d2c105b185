package district_test

import (
	"fmt"
	"math/rand"
	"slices"
	"strings"
	"testing"

	"district/api"
	"district/district"
)

// bits are the bits of an address as a text, the highest first.
func bits(addr int) string { return fmt.Sprintf("%016b", addr) }

func plainPrefix(addr, length int) bool {
	return addr >= 0 && addr < 65536 && length >= 0 && length <= 16 && !strings.Contains(bits(addr)[length:], "1")
}

// about is the tenant that a call with the token is about, or the error.
func (m *model) about(token, right int) (*modelTenant, api.Errno) {
	switch {
	case !m.alive(token):
		return nil, api.ErrToken
	case m.tokens[token].rights&right == 0:
		return nil, api.ErrRight
	}
	return &m.tenants[m.tokens[token].tenant], api.OK
}

func (u *modelTenant) find(addr, length int) int {
	return slices.IndexFunc(u.own, func(r api.Route) bool { return r.Addr == addr && r.Len == length })
}

func (m *model) insert(token, addr, length, hop int) api.Errno {
	u, fault := m.about(token, api.Write)
	if fault != api.OK {
		return fault
	}
	if !plainPrefix(addr, length) || hop < 0 || hop > 255 {
		return api.ErrArg
	}
	if i := u.find(addr, length); i >= 0 {
		u.own = slices.Delete(u.own, i, i+1)
	}
	if len(u.own) == u.quota {
		return api.ErrQuota
	}
	u.own = append(u.own, route(addr, length, hop, u.number))
	return api.OK
}

func (m *model) remove(token, addr, length int) api.Errno {
	u, fault := m.about(token, api.Write)
	if fault != api.OK {
		return fault
	}
	if !plainPrefix(addr, length) {
		return api.ErrArg
	}
	i := u.find(addr, length)
	if i < 0 {
		return api.ErrNone
	}
	u.own = slices.Delete(u.own, i, i+1)
	return api.OK
}

func (m *model) share(token, gives, takes int) api.Errno {
	u, fault := m.about(token, api.Policy)
	if fault != api.OK {
		return fault
	}
	if gives < 0 || gives > 255 || takes < 0 || takes > 255 {
		return api.ErrArg
	}
	u.gives, u.takes = gives, takes
	return api.OK
}

func (m *model) filter(token int, rules []api.Rule) api.Errno {
	u, fault := m.about(token, api.Policy)
	if fault != api.OK {
		return fault
	}
	if len(rules) > 4 {
		return api.ErrArg
	}
	for _, r := range rules {
		if !plainPrefix(r.Addr, r.Len) || r.Ge < r.Len || r.Le < r.Ge || r.Le > 16 {
			return api.ErrArg
		}
	}
	u.rules = slices.Clone(rules)
	return api.OK
}

func (u *modelTenant) letsIn(r api.Route) bool {
	for _, w := range u.rules {
		if w.Ge <= r.Len && r.Len <= w.Le && bits(r.Addr)[:w.Len] == bits(w.Addr)[:w.Len] {
			return w.Allow
		}
	}
	return len(u.rules) == 0
}

func byPrefix(a, b api.Route) int {
	if a.Addr != b.Addr {
		return a.Addr - b.Addr
	}
	return a.Len - b.Len
}

func (m *model) table(token int) ([]api.Route, api.Sums, api.Errno) {
	u, fault := m.about(token, api.Read)
	if fault != api.OK {
		return nil, api.Sums{}, fault
	}
	var offers []api.Route
	for i := range m.tenants {
		v := &m.tenants[i]
		if v.dropped || v == u || v.gives&u.takes == 0 {
			continue
		}
		for _, r := range v.own {
			if u.letsIn(r) && u.find(r.Addr, r.Len) < 0 {
				offers = append(offers, r)
			}
		}
	}
	slices.SortFunc(offers, func(a, b api.Route) int {
		if c := byPrefix(a, b); c != 0 {
			return c
		}
		return a.From - b.From
	})
	offers = slices.CompactFunc(offers, func(a, b api.Route) bool { return byPrefix(a, b) == 0 })
	taken := min(len(offers), u.quota-len(u.own))
	l := slices.Concat(u.own, offers[:taken])
	slices.SortFunc(l, byPrefix)
	return l, api.Sums{Own: len(u.own), Taken: taken, Dropped: len(offers) - taken, Quota: u.quota}, api.OK
}

// containing are the routes of the table that contain an address.
func (m *model) containing(token, addr int) ([]api.Route, api.Errno) {
	l, _, fault := m.table(token)
	if fault != api.OK {
		return nil, fault
	}
	if addr < 0 || addr > 65535 {
		return nil, api.ErrArg
	}
	var found []api.Route
	for _, r := range l {
		if bits(r.Addr)[:r.Len] == bits(addr)[:r.Len] {
			found = append(found, r)
		}
	}
	return found, api.OK
}

func (m *model) lookup(token, addr int) (api.Route, api.Errno) {
	found, fault := m.containing(token, addr)
	if fault != api.OK {
		return api.Route{}, fault
	}
	if len(found) == 0 {
		return api.Route{}, api.ErrNone
	}
	return slices.MaxFunc(found, func(a, b api.Route) int { return a.Len - b.Len }), api.OK
}

func (m *model) pass(token, addr, hop int, strict bool) (bool, api.Errno) {
	found, fault := m.containing(token, addr)
	if fault == api.OK && (hop < 0 || hop > 255) {
		fault = api.ErrArg
	}
	if fault != api.OK {
		return false, fault
	}
	if !strict {
		return slices.ContainsFunc(found, func(r api.Route) bool { return r.Hop != 0 }), api.OK
	}
	best, none := m.lookup(token, addr)
	return hop != 0 && none == api.OK && best.Hop == hop, api.OK
}

// compareLookup tests what a token tells of an address.
func compareLookup(t *testing.T, x *district.Engine, m *model, token, addr, hop int) {
	t.Helper()
	want, fault := m.lookup(token, addr)
	if r, e := x.Lookup(token, addr); r != want || e != fault {
		t.Errorf("P8: Lookup(%d, %d) = %v, %d, want %v, %d", token, addr, r, e, want, fault)
	}
	for _, strict := range []bool{true, false} {
		want, fault := m.pass(token, addr, hop, strict)
		if p, e := x.Pass(token, addr, hop, strict); p != want || e != fault {
			t.Errorf("P8: Pass(%d, %d, %d, %v) = %v, %d, want %v, %d", token, addr, hop, strict, p, e, want, fault)
		}
	}
}

// compare tests what a token tells of the table.
func compare(t *testing.T, x *district.Engine, m *model, token int) {
	t.Helper()
	l, s, e := m.table(token)
	if e != api.OK {
		noTable(t, x, token, e)
		return
	}
	table(t, x, token, l...)
	count(t, x, token, s.Own, s.Taken, s.Dropped, s.Quota)
}

// drawPrefix is a prefix out of few, so that they meet; now and then it is none.
func drawPrefix(r *rand.Rand) (int, int) {
	length := r.Intn(5)
	addr := r.Intn(8) << 13 >> (16 - length) << (16 - length)
	switch r.Intn(40) {
	case 0:
		return addr + 1<<r.Intn(17), length
	case 1:
		return addr, r.Intn(70) - 30
	case 2:
		return -addr, length
	case 3:
		return 65535, 16
	}
	return addr, length
}

// drawAddr is mostly an address, often the first or the last one of a prefix.
func drawAddr(r *rand.Rand) int {
	addr, length := drawPrefix(r)
	if length < 0 || length > 16 {
		return r.Intn(65536)
	}
	return addr + r.Intn(3)/2*(1<<(16-length)-1)
}

// drawHop is a hop out of few, so that they meet; now and then it is none.
func drawHop(r *rand.Rand) int {
	if r.Intn(8) == 0 {
		return r.Intn(260) - 2
	}
	return r.Intn(4)
}

func drawRules(r *rand.Rand) []api.Rule {
	rules := make([]api.Rule, r.Intn(4)+r.Intn(9)/8*2)
	for i := range rules {
		addr, length := drawPrefix(r)
		ge := length + r.Intn(3)
		le := ge + r.Intn(4)
		if r.Intn(20) == 0 {
			ge, le = r.Intn(20)-1, r.Intn(20)-1
		}
		rules[i] = api.Rule{Allow: r.Intn(3) > 0, Addr: addr, Len: length, Ge: ge, Le: le}
	}
	return rules
}

// drawToken is mostly a token that is alive.
func (m *model) drawToken(r *rand.Rand) int {
	token := 0
	for range 8 {
		token = r.Intn(len(m.tokens)+2) - 1
		if m.alive(token) {
			break
		}
	}
	return token
}

// routeStep makes one call about routes of the engine and of the model, and tests that they answer the same.
func routeStep(t *testing.T, r *rand.Rand, x *district.Engine, m *model) {
	t.Helper()
	token := m.drawToken(r)
	switch r.Intn(16) {
	case 0, 1, 2, 3:
		addr, length := drawPrefix(r)
		hop := drawHop(r)
		insert(t, x, token, addr, length, hop, m.insert(token, addr, length, hop))
	case 4, 5:
		addr, length := drawPrefix(r)
		remove(t, x, token, addr, length, m.remove(token, addr, length))
	case 6, 7:
		gives, takes := 1<<r.Intn(10)-1, r.Intn(257)
		share(t, x, token, gives, takes, m.share(token, gives, takes))
	case 8:
		rules := drawRules(r)
		setRules(t, x, token, m.filter(token, rules), rules...)
	case 9, 10, 11, 12:
		compareLookup(t, x, m, token, drawAddr(r), drawHop(r))
	default:
		compare(t, x, m, token)
	}
}

func TestRoutesAgainstModel(t *testing.T) {
	for seed := range int64(400) {
		r := rand.New(rand.NewSource(seed))
		room := 1 + r.Intn(64)
		x := begin(t, room)
		m := newModel(room)
		for range 400 {
			if r.Intn(5) == 0 {
				step(t, r, x, m)
			} else {
				routeStep(t, r, x, m)
			}
		}
		for token := range len(m.tokens) + 2 {
			compare(t, x, m, token)
			compareLookup(t, x, m, token, drawAddr(r), drawHop(r))
		}
		if t.Failed() {
			t.Fatalf("seed %d, room %d", seed, room)
		}
	}
}
