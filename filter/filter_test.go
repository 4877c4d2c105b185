package filter

import (
	"fmt"
	"math/rand"
	"strings"
	"testing"

	"district/api"
)

const (
	most  = 1<<63 - 1
	least = -1 << 63
)

func rule(allow bool, addr, length, ge, le int) api.Rule {
	return api.Rule{Allow: allow, Addr: addr, Len: length, Ge: ge, Le: le}
}

func accept(t *testing.T, rules ...api.Rule) Rules {
	t.Helper()
	made, e := Make(rules)
	if e != api.OK {
		t.Fatalf("P6: Make(%v) = %d", rules, e)
	}
	return made
}

func refuse(t *testing.T, rules ...api.Rule) {
	t.Helper()
	if made, e := Make(rules); made != (Rules{}) || e != api.ErrArg {
		t.Errorf("P6: Make(%v) = %v, %d, want ErrArg", rules, made, e)
	}
}

func letsIn(t *testing.T, r Rules, addr, length int, want bool) {
	t.Helper()
	if r.LetsIn(addr, length) != want {
		t.Errorf("P6: %v: LetsIn(%d, %d) is not %v", r, addr, length, want)
	}
}

func TestWrongRules(t *testing.T) {
	good := rule(true, 4096, 4, 4, 8)
	wrong := []api.Rule{
		rule(true, 1, 0, 0, 16), rule(true, 4096, 3, 3, 16), rule(true, -4096, 4, 4, 4), rule(true, 65536, 16, 16, 16),
		rule(true, 0, -1, 0, 16), rule(true, 0, -1, -1, -1), rule(true, 0, 17, 17, 17), rule(true, 0, 17, 16, 16),
		rule(true, 4096, 4, 3, 8), rule(true, 4096, 4, -1, 8), rule(true, 4096, 4, 6, 5), rule(true, 0, 0, 1, 0),
		rule(true, 4096, 4, 4, 17), rule(true, 0, 0, 17, 17), rule(true, 0, 0, 17, 16), rule(true, 4096, 4, 4, 3),
		rule(true, most, most, most, most), rule(true, least, least, least, least), rule(false, 0, 0, least, most),
	}
	for _, w := range wrong {
		refuse(t, w)
		refuse(t, w, good)
		refuse(t, good, good, good, w)
	}
	refuse(t, good, good, good, good, good)
	refuse(t, make([]api.Rule, 1000)...)
}

func TestRulesAtTheEdge(t *testing.T) {
	accept(t)
	accept(t, rule(false, 0, 0, 0, 0))
	accept(t, rule(false, 0, 0, 16, 16))
	accept(t, rule(false, 65535, 16, 16, 16))
	accept(t, rule(true, 4096, 4, 4, 16), rule(true, 4096, 4, 4, 4), rule(true, 0, 0, 0, 16), rule(false, 2, 15, 15, 16))
}

func TestLengthsAndBits(t *testing.T) {
	r := accept(t, rule(true, 4096, 4, 6, 8))
	letsIn(t, r, 4096, 5, false)
	letsIn(t, r, 4096, 6, true)
	letsIn(t, r, 4096, 8, true)
	letsIn(t, r, 4096, 9, false)
	letsIn(t, r, 7168, 6, true)
	letsIn(t, r, 8192-256, 8, true)
	letsIn(t, r, 8192, 8, false)
	letsIn(t, r, 0, 8, false)
	letsIn(t, r, 0, 0, false)
}

func TestFirstRuleDecides(t *testing.T) {
	r := accept(t, rule(false, 4096, 4, 4, 4), rule(true, 0, 0, 0, 16), rule(false, 0, 0, 0, 16))
	letsIn(t, r, 4096, 4, false)
	letsIn(t, r, 4096, 5, true)
	letsIn(t, r, 0, 0, true)
	letsIn(t, r, 65535, 16, true)
	r = accept(t, rule(true, 4096, 4, 4, 16), rule(false, 0, 0, 0, 16))
	letsIn(t, r, 4096, 4, true)
	letsIn(t, r, 0, 0, false)
}

func TestNoRulesLetAllIn(t *testing.T) {
	for _, list := range [][]api.Rule{nil, {}} {
		r := accept(t, list...)
		letsIn(t, r, 0, 0, true)
		letsIn(t, r, 65535, 16, true)
	}
	r := accept(t, rule(false, 65535, 16, 16, 16))
	letsIn(t, r, 0, 0, false)
	letsIn(t, r, 65535, 16, false)
}

func TestCallersRulesStay(t *testing.T) {
	list := []api.Rule{rule(true, 4096, 4, 4, 8), rule(false, 0, 0, 0, 0)}
	r := accept(t, list[:1]...)
	letsIn(t, r, 4096, 4, true)
	if list[0] != rule(true, 4096, 4, 4, 8) || list[1] != rule(false, 0, 0, 0, 0) {
		t.Errorf("P2: the caller's rules were changed: %v", list)
	}
	list[0] = rule(false, 0, 0, 0, 16)
	letsIn(t, r, 4096, 4, true)
}

// plain says P6 over again with texts of bits.
func plain(rules []api.Rule, addr, length int) bool {
	for _, r := range rules {
		head := fmt.Sprintf("%016b", r.Addr)[:r.Len]
		if r.Ge <= length && length <= r.Le && strings.HasPrefix(fmt.Sprintf("%016b", addr), head) {
			return r.Allow
		}
	}
	return len(rules) == 0
}

func drawPrefix(draw *rand.Rand) (int, int) {
	length := draw.Intn(17)
	return draw.Intn(4) << 14 >> (16 - length) << (16 - length), length
}

func TestAgainstTexts(t *testing.T) {
	draw := rand.New(rand.NewSource(3))
	for range 2000 {
		var list []api.Rule
		for range draw.Intn(5) {
			addr, length := drawPrefix(draw)
			ge := length + draw.Intn(17-length)
			list = append(list, rule(draw.Intn(2) == 0, addr, length, ge, ge+draw.Intn(17-ge)))
		}
		r := accept(t, list...)
		for range 40 {
			addr, length := drawPrefix(draw)
			letsIn(t, r, addr, length, plain(list, addr, length))
		}
	}
}
