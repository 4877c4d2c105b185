package district_test

import (
	"math/rand"
	"testing"

	"district/api"
	"district/district"
)

// A model says the words of P3 to P8 over again, the plainest way: nothing is ever
// forgotten, and each tenant that ever was has a place of its own.
type modelTenant struct {
	number, quota int
	dropped       bool
	own           []api.Route // as they came
	gives, takes  int
	rules         []api.Rule
}

type modelToken struct {
	tenant, rights, parent int
	revoked                bool
}

type model struct {
	room    int
	tenants []modelTenant
	tokens  []modelToken // [0] is no token
}

func newModel(room int) *model {
	return &model{room: room, tokens: make([]modelToken, 1)}
}

func (m *model) find(number int) int {
	for i, t := range m.tenants {
		if !t.dropped && t.number == number {
			return i
		}
	}
	return -1
}

func (m *model) create(quota int) (int, int, api.Errno) {
	count, sum, number := 0, quota, 0
	for _, t := range m.tenants {
		if !t.dropped {
			count++
			sum += t.quota
		}
	}
	for m.find(number) >= 0 {
		number++
	}
	switch {
	case quota < 1 || quota > 64:
		return 0, 0, api.ErrArg
	case count == 8:
		return 0, 0, api.ErrTenant
	case sum > m.room:
		return 0, 0, api.ErrRoom
	case len(m.tokens) > 100:
		return 0, 0, api.ErrTokens
	}
	m.tenants = append(m.tenants, modelTenant{number: number, quota: quota})
	m.tokens = append(m.tokens, modelToken{tenant: len(m.tenants) - 1, rights: 15})
	return number, len(m.tokens) - 1, api.OK
}

func (m *model) drop(number int) api.Errno {
	i := m.find(number)
	if i < 0 {
		return api.ErrTenant
	}
	m.tenants[i].dropped = true
	return api.OK
}

func (m *model) under(which, token int) bool {
	if which < 1 || which >= len(m.tokens) {
		return false
	}
	p := m.tokens[which].parent
	return p != 0 && (p == token || m.under(p, token))
}

func (m *model) alive(token int) bool {
	if token < 1 || token >= len(m.tokens) || m.tenants[m.tokens[token].tenant].dropped {
		return false
	}
	for n, k := range m.tokens {
		if k.revoked && (n == token || m.under(token, n)) {
			return false
		}
	}
	return true
}

func (m *model) derive(token, rights int) (int, api.Errno) {
	switch {
	case !m.alive(token):
		return 0, api.ErrToken
	case rights < 0 || rights > 15:
		return 0, api.ErrArg
	case m.tokens[token].rights&8 == 0 || rights&^m.tokens[token].rights != 0:
		return 0, api.ErrRight
	case len(m.tokens) > 100:
		return 0, api.ErrTokens
	}
	m.tokens = append(m.tokens, modelToken{tenant: m.tokens[token].tenant, rights: rights, parent: token})
	return len(m.tokens) - 1, api.OK
}

func (m *model) revoke(token, which int) api.Errno {
	switch {
	case !m.alive(token):
		return api.ErrToken
	case m.tokens[token].rights&8 == 0 || !m.under(which, token):
		return api.ErrRight
	}
	m.tokens[which].revoked = true
	return api.OK
}

// step makes one call of the engine and of the model, and tests that they answer the same.
func step(t *testing.T, r *rand.Rand, x *district.Engine, m *model) {
	t.Helper()
	pick := func() int { return r.Intn(len(m.tokens)+2) - 1 }
	switch r.Intn(10) {
	case 0, 1:
		quota := r.Intn(m.room/2+2) + r.Intn(2)*r.Intn(66)
		n, k, e := m.create(quota)
		create(t, x, quota, n, k, e)
	case 2:
		if number := r.Intn(40) - 1; number < 10 {
			drop(t, x, number, m.drop(number))
		}
	case 3, 4:
		token, which := pick(), pick()
		revoke(t, x, token, which, m.revoke(token, which))
	default:
		token, rights := pick(), r.Intn(18)-1
		if r.Intn(2) == 0 {
			rights = 15
		}
		n, e := m.derive(token, rights)
		derive(t, x, token, rights, n, e)
	}
}

func TestAgainstModel(t *testing.T) {
	for seed := range int64(300) {
		r := rand.New(rand.NewSource(seed))
		room := 1 + r.Intn(64)
		x := begin(t, room)
		m := newModel(room)
		for range 400 {
			step(t, r, x, m)
		}
		if t.Failed() {
			t.Fatalf("seed %d, room %d", seed, room)
		}
	}
}
