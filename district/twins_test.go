package district_test

import (
	"bytes"
	"math/rand"
	"slices"
	"testing"

	"district/api"
	"district/district"
)

// A drawn request: its number, and all that one of its number may need.
type drawn struct {
	number, quota, tenant, token, which, rights int
	addr, length, hop, gives, takes             int
	strict                                      bool
	rules                                       []api.Rule
}

// draw is a request that bytes can say; most of the tokens have been given out.
func draw(r *rand.Rand, given int) drawn {
	d := drawn{number: 1 + r.Intn(12), quota: r.Intn(12), tenant: r.Intn(10), rights: r.Intn(16)}
	d.token, d.which = r.Intn(given+2), r.Intn(given+2)
	d.addr, d.length = drawPrefix(r)
	d.gives, d.takes = r.Intn(256), r.Intn(256)
	d.strict = r.Intn(2) == 0
	d.rules = drawRules(r)
	for i := range d.rules {
		d.rules[i].Addr &= 65535
		d.rules[i].Len &= 255
		d.rules[i].Ge &= 255
		d.rules[i].Le &= 255
	}
	if d.number == api.ReqLookup || d.number == api.ReqPass {
		d.addr = drawAddr(r)
	}
	d.addr, d.length, d.hop = d.addr&65535, d.length&255, drawHop(r)&255
	switch r.Intn(30) {
	case 0:
		d.quota, d.rights, d.length = r.Intn(256), r.Intn(256), r.Intn(256)
	case 1:
		d.token, d.which, d.addr = r.Intn(65536), r.Intn(65536), r.Intn(65536)
	case 2:
		d.rights = api.Every
	}
	return d
}

func word(n int) []byte { return list(n/256, n%256) }

func truth(b bool) int {
	if b {
		return 1
	}
	return 0
}

// bytes is the request, by the document's table.
func (d drawn) bytes() []byte {
	one, token, addr := list(d.number), word(d.token), word(d.addr)
	switch d.number {
	case api.ReqCreate:
		return slices.Concat(one, list(d.quota))
	case api.ReqDrop:
		return slices.Concat(one, list(d.tenant))
	case api.ReqDerive:
		return slices.Concat(one, token, list(d.rights))
	case api.ReqRevoke:
		return slices.Concat(one, token, word(d.which))
	case api.ReqInsert:
		return slices.Concat(one, token, addr, list(d.length, d.hop))
	case api.ReqRemove:
		return slices.Concat(one, token, addr, list(d.length))
	case api.ReqShare:
		return slices.Concat(one, token, list(d.gives, d.takes))
	case api.ReqFilter:
		b := slices.Concat(one, token, list(len(d.rules)))
		for _, r := range d.rules {
			b = slices.Concat(b, list(truth(r.Allow)), word(r.Addr), list(r.Len, r.Ge, r.Le))
		}
		return b
	case api.ReqLookup:
		return slices.Concat(one, token, addr)
	case api.ReqPass:
		return slices.Concat(one, token, addr, list(d.hop, truth(d.strict)))
	}
	return slices.Concat(one, token)
}

func routeBytes(r api.Route) []byte {
	return slices.Concat(word(r.Addr), list(r.Len, r.Hop, r.From))
}

// call makes the call itself, and lays its answer out by the document's table.
func (d drawn) call(x *district.Engine) []byte {
	var e api.Errno
	var answer []byte
	switch d.number {
	case api.ReqCreate:
		n, k, f := x.Create(d.quota)
		e, answer = f, slices.Concat(list(n), word(k))
	case api.ReqDrop:
		e = x.Drop(d.tenant)
	case api.ReqDerive:
		k, f := x.Derive(d.token, d.rights)
		e, answer = f, word(k)
	case api.ReqRevoke:
		e = x.Revoke(d.token, d.which)
	case api.ReqInsert:
		e = x.Insert(d.token, d.addr, d.length, d.hop)
	case api.ReqRemove:
		e = x.Remove(d.token, d.addr, d.length)
	case api.ReqShare:
		e = x.Share(d.token, d.gives, d.takes)
	case api.ReqFilter:
		e = x.Filter(d.token, d.rules)
	case api.ReqLookup:
		r, f := x.Lookup(d.token, d.addr)
		e, answer = f, routeBytes(r)
	case api.ReqPass:
		p, f := x.Pass(d.token, d.addr, d.hop, d.strict)
		e, answer = f, list(truth(p))
	case api.ReqTable:
		l, f := x.Table(d.token)
		e, answer = f, list(len(l))
		for _, r := range l {
			answer = slices.Concat(answer, routeBytes(r))
		}
	case api.ReqCount:
		s, f := x.Count(d.token)
		e, answer = f, slices.Concat(list(s.Own, s.Taken), word(s.Dropped), list(s.Quota))
	}
	if e != api.OK {
		return list(int(e))
	}
	return slices.Concat(list(0), answer)
}

// spoil makes bytes that are no request out of a request.
func spoil(r *rand.Rand, b []byte) []byte {
	b = bytes.Clone(b)
	switch r.Intn(4) {
	case 0:
		return b[:r.Intn(len(b))]
	case 1:
		b[0] = byte(13 + r.Intn(244))
		return b
	case 2:
		if b[0] == api.ReqPass {
			b[6] = byte(2 + r.Intn(254))
			return b
		}
		if b[0] == api.ReqFilter && b[3] > 0 {
			b[4+6*r.Intn(int(b[3]))] = byte(2 + r.Intn(254))
			return b
		}
	}
	return append(b, make([]byte, 1+r.Intn(8))...)
}

// sameState tests that two engines tell the same by each token.
func sameState(t *testing.T, x, y *district.Engine) {
	t.Helper()
	for token := range api.MaxTokens + 2 {
		l, e := x.Table(token)
		m, f := y.Table(token)
		s, g := x.Count(token)
		u, h := y.Count(token)
		if e != f || g != h || s != u || !slices.Equal(l, m) {
			t.Errorf("P10: token %d: %v, %v, %d, and by calls %v, %v, %d", token, l, s, e, m, u, f)
		}
	}
}

// possible are the errors that a request of each number can be answered.
var possible = [13][]api.Errno{
	{},
	{api.OK, api.ErrArg, api.ErrTenant, api.ErrRoom, api.ErrTokens},
	{api.OK, api.ErrTenant},
	{api.OK, api.ErrArg, api.ErrToken, api.ErrRight, api.ErrTokens},
	{api.OK, api.ErrToken, api.ErrRight},
	{api.OK, api.ErrArg, api.ErrToken, api.ErrRight, api.ErrQuota},
	{api.OK, api.ErrArg, api.ErrToken, api.ErrRight, api.ErrNone},
	{api.OK, api.ErrToken, api.ErrRight},
	{api.OK, api.ErrArg, api.ErrToken, api.ErrRight},
	{api.OK, api.ErrToken, api.ErrRight, api.ErrNone},
	{api.OK, api.ErrToken, api.ErrRight},
	{api.OK, api.ErrToken, api.ErrRight},
	{api.OK, api.ErrToken, api.ErrRight},
}

// twins are two engines of which one gets requests, and bytes that are no request between
// them, and the other one the calls themselves. It counts what was answered.
func twins(t *testing.T, seed int64, seen *[13][10]int) {
	t.Helper()
	r := rand.New(rand.NewSource(seed))
	room := 8 + r.Intn(57)
	x, y := begin(t, room), begin(t, room)
	given := 0
	for range 500 {
		d := draw(r, given)
		// In some engines all tokens are given out.
		if seed%4 == 0 && r.Intn(2) == 0 {
			d.number, d.rights = api.ReqDerive, api.Every
		}
		// Few droppings and revokings, so that there is something to tell.
		if (d.number == api.ReqDrop || d.number == api.ReqRevoke) && r.Intn(4) > 0 {
			continue
		}
		request := d.bytes()
		if r.Intn(4) == 0 {
			noRequest(t, x, spoil(r, request))
		}
		want := d.call(y)
		if got := x.Do(request); !bytes.Equal(got, want) {
			t.Errorf("P10: Do(%v) = %v, and the call %v", request, got, want)
		}
		seen[d.number][want[0]]++
		if want[0] == 0 && (d.number == api.ReqCreate || d.number == api.ReqDerive) {
			given++
		}
	}
	sameState(t, x, y)
}

func TestRequestsAreAsCalls(t *testing.T) {
	var seen [13][10]int
	for seed := range int64(300) {
		twins(t, seed, &seen)
		if t.Failed() {
			t.Fatalf("seed %d", seed)
		}
	}
	for number, faults := range possible {
		for _, e := range faults {
			if seen[number][e] < 5 {
				t.Errorf("request %d was answered %d only %d times", number, e, seen[number][e])
			}
		}
	}
}

// Any bytes: Do ends, and its answer is an error alone, or 0 and as many bytes as there are to tell.
func TestAnyBytes(t *testing.T) {
	behind := [13]int{1: 3, 3: 2, 9: 5, 10: 1, 12: 5}
	r := rand.New(rand.NewSource(1))
	for range 400 {
		x := theThree(t)
		for range 200 {
			b := make([]byte, r.Intn(12))
			for i := range b {
				b[i] = byte(r.Intn(18))
				if r.Intn(9) == 0 {
					b[i] = byte(r.Intn(256))
				}
			}
			if len(b) > 2 && r.Intn(2) == 0 {
				b[1], b[2] = 0, byte(1+r.Intn(3))
			}
			a := x.Do(b)
			if len(a) == 0 || a[0] > 9 || a[0] > 0 && len(a) != 1 {
				t.Fatalf("P10: Do(%v) = %v", b, a)
			}
			if a[0] == 0 && b[0] == api.ReqTable && (len(a) < 2 || len(a) != 2+5*int(a[1])) {
				t.Fatalf("P10: Do(%v) = %v", b, a)
			}
			if a[0] == 0 && b[0] != api.ReqTable && len(a) != 1+behind[b[0]] {
				t.Fatalf("P10: Do(%v) = %v", b, a)
			}
		}
	}
}
