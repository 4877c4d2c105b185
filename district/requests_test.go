package district_test

import (
	"bytes"
	"slices"
	"testing"

	"district/api"
	"district/district"
)

// list is bytes out of numbers.
func list(numbers ...int) []byte {
	b := make([]byte, 0, len(numbers))
	for _, n := range numbers {
		b = append(b, byte(n))
	}
	return b
}

func do(t *testing.T, x *district.Engine, request []byte, want ...int) {
	t.Helper()
	if b := x.Do(request); !bytes.Equal(b, list(want...)) {
		t.Errorf("P10: Do(%v) = %v, want %v", request, b, want)
	}
}

// noRequest tests that bytes are no request.
func noRequest(t *testing.T, x *district.Engine, request []byte) {
	t.Helper()
	do(t, x, request, int(api.ErrForm))
}

// theThree are the two of the examples with a token more: 3, made out of 1, with every right.
func theThree(t *testing.T) *district.Engine {
	t.Helper()
	x := theTwo(t)
	derive(t, x, 1, api.Every, 3, api.OK)
	return x
}

// untouched tests that theThree are as they were, and spends a tenant and tokens on it.
func untouched(t *testing.T, x *district.Engine) {
	t.Helper()
	table(t, x, 1, route(0, 0, 9, 0), route(4096, 4, 7, 0))
	count(t, x, 1, 2, 0, 0, 3)
	table(t, x, 2, route(0, 0, 9, 0), route(4096, 8, 5, 1))
	count(t, x, 2, 1, 1, 1, 2)
	table(t, x, 3, route(0, 0, 9, 0), route(4096, 4, 7, 0))
	derive(t, x, 1, 0, 4, api.OK)
	create(t, x, 5, 2, 5, api.OK)
	share(t, x, 5, 0, 255-1, api.OK)
	table(t, x, 5)
	share(t, x, 5, 255, 0, api.OK)
	insert(t, x, 5, 0, 16, 1, api.OK)
	table(t, x, 1, route(0, 0, 9, 0), route(4096, 4, 7, 0))
}

type asking struct{ request, answer []byte }

// good are requests of every number that theThree carry out, each for itself.
func good() []asking {
	rule := list(1, 16, 0, 4, 4, 8)
	return []asking{
		{list(1, 5), list(0, 2, 0, 4)},
		{list(2, 1), list(0)},
		{list(3, 0, 1, 9), list(0, 0, 4)},
		{list(4, 0, 1, 0, 3), list(0)},
		{list(5, 0, 2, 0, 0, 0, 1), list(0)},
		{list(6, 0, 2, 16, 0, 8), list(0)},
		{list(7, 0, 2, 0, 2), list(0)},
		{list(8, 0, 2, 0), list(0)},
		{append(list(8, 0, 2, 1), rule...), list(0)},
		{append(list(8, 0, 2, 4), bytes.Repeat(rule, 4)...), list(0)},
		{list(9, 0, 2, 16, 1), list(0, 16, 0, 8, 5, 1)},
		{list(9, 0, 2, 32, 0), list(0, 0, 0, 0, 9, 0)},
		{list(10, 0, 2, 32, 0, 9, 1), list(0, 1)},
		{list(10, 0, 2, 32, 0, 5, 1), list(0, 0)},
		{list(10, 0, 2, 32, 0, 5, 0), list(0, 1)},
		{list(11, 0, 2), list(0, 2, 0, 0, 0, 9, 0, 16, 0, 8, 5, 1)},
		{list(12, 0, 2), list(0, 1, 1, 0, 1, 2)},
	}
}

func TestExampleOfRequests(t *testing.T) {
	do(t, begin(t, 10), list(1, 3), 0, 0, 0, 1)
	x := theTwo(t)
	do(t, x, list(9, 0, 2, 16, 1), 0, 16, 0, 8, 5, 1)
	do(t, x, nil, 1)
	do(t, x, list(), 1)
	do(t, x, list(13), 1)
	do(t, x, list(1), 1)
	do(t, x, list(1, 3, 0), 1)
	do(t, x, list(2, 9), 5)
	do(t, x, list(11, 0, 2), 0, 2, 0, 0, 0, 9, 0, 16, 0, 8, 5, 1)
	do(t, x, list(12, 0, 2), 0, 1, 1, 0, 1, 2)
}

func TestEveryRequest(t *testing.T) {
	for _, g := range good() {
		x := theThree(t)
		if b := x.Do(g.request); !bytes.Equal(b, g.answer) {
			t.Errorf("P10: Do(%v) = %v, want %v", g.request, b, g.answer)
		}
	}
}

// What each request carries out is seen by the calls themselves.
func TestRequestsAreCarriedOut(t *testing.T) {
	x := theTwo(t)
	do(t, x, list(1, 5), 0, 2, 0, 3)
	count(t, x, 3, 0, 0, 0, 5)
	do(t, x, list(5, 0, 3, 0x12, 0x34, 16, 200), 0)
	table(t, x, 3, route(0x1234, 16, 200, 2))
	do(t, x, list(5, 0, 3, 0xff, 0, 8, 255), 0)
	do(t, x, list(6, 0, 3, 0x12, 0x34, 16), 0)
	table(t, x, 3, route(0xff00, 8, 255, 2))
	do(t, x, list(7, 0, 3, 128, 1), 0)
	table(t, x, 3, route(0, 0, 9, 0), route(4096, 4, 7, 0), route(0xff00, 8, 255, 2))
	do(t, x, list(8, 0, 3, 2, 0, 16, 0, 4, 4, 4, 1, 0, 0, 0, 0, 16), 0)
	table(t, x, 3, route(0, 0, 9, 0), route(0xff00, 8, 255, 2))
	do(t, x, list(7, 0, 2, 0, 128), 0)
	table(t, x, 2, route(4096, 8, 5, 1), route(0xff00, 8, 255, 2))
	do(t, x, list(9, 0, 2, 0xff, 1), 0, 0xff, 0, 8, 255, 2)
	do(t, x, list(10, 0, 2, 0xff, 1, 255, 1), 0, 1)
	do(t, x, list(10, 0, 2, 0xfe, 255, 255, 1), 0, 0)
	do(t, x, list(3, 0, 3, 9), 0, 0, 4)
	derive(t, x, 4, api.Write, 0, api.ErrRight)
	derive(t, x, 4, api.Read, 5, api.OK)
	do(t, x, list(4, 0, 3, 0, 4), 0)
	noTable(t, x, 4, api.ErrToken)
	noTable(t, x, 5, api.ErrToken)
	do(t, x, list(2, 2), 0)
	noTable(t, x, 3, api.ErrToken)
	table(t, x, 2, route(4096, 8, 5, 1))
}

// Each request cut short, with the bytes that are missing right behind it, and with more bytes.
func TestTooFewOrTooManyBytes(t *testing.T) {
	x := theThree(t)
	for _, g := range good() {
		for length := range g.request {
			noRequest(t, x, g.request[:length])
		}
		for _, fill := range []int{0, 1, 255} {
			long := bytes.Clone(g.request)
			for range 300 {
				long = append(long, byte(fill))
				noRequest(t, x, long)
			}
		}
	}
	untouched(t, x)
}

func TestOtherNumbers(t *testing.T) {
	x := theThree(t)
	for number := 13; number <= 256; number++ {
		for length := 1; length < 12; length++ {
			for _, fill := range []int{0, 1, 2, 255} {
				b := bytes.Repeat(list(fill), length)
				b[0] = byte(number)
				noRequest(t, x, b)
			}
		}
		for _, g := range good() {
			b := bytes.Clone(g.request)
			b[0] = byte(number)
			noRequest(t, x, b)
		}
	}
	untouched(t, x)
}

// Another Allow or strict than 0 or 1 is no request, whatever else is wrong.
func TestOtherFlags(t *testing.T) {
	x := theThree(t)
	for flag := 2; flag < 256; flag++ {
		for _, token := range []int{0, 2, 99} {
			noRequest(t, x, list(10, 0, token, 32, 0, 9, flag))
			noRequest(t, x, list(8, 0, token, 1, flag, 16, 0, 4, 4, 8))
			noRequest(t, x, list(8, 0, token, 1, flag, 16, 0, 4, 4, 99))
			for place := range 5 {
				b := append(list(8, 0, token, 5), bytes.Repeat(list(1, 16, 0, 4, 4, 8), 5)...)
				b[4+6*place] = byte(flag)
				noRequest(t, x, b)
				b[3] = 4
				if place < 4 {
					noRequest(t, x, b[:28])
				}
			}
		}
	}
	untouched(t, x)
}

// Bytes that are no request come before a token that is not alive, a right that is not
// there and a wrong number.
func TestFormComesFirst(t *testing.T) {
	x := theThree(t)
	noRequest(t, x, list(1, 0, 0))
	noRequest(t, x, list(1, 65, 0))
	noRequest(t, x, list(2, 9, 0))
	for _, g := range good() {
		if g.request[0] <= api.ReqDrop {
			continue
		}
		for _, token := range []int{0, 4, 255} {
			b := bytes.Clone(g.request)
			b[2] = byte(token)
			do(t, x, b, int(api.ErrToken))
			noRequest(t, x, b[:len(b)-1])
			noRequest(t, x, append(b, 0))
		}
	}
	untouched(t, x)
}

// Each field of two bytes has the high byte first: with it set, it is another number.
func TestHighByteFirst(t *testing.T) {
	x := theThree(t)
	for _, g := range good() {
		if g.request[0] <= api.ReqDrop {
			continue
		}
		b := bytes.Clone(g.request)
		b[1], b[2] = b[2], b[1]
		do(t, x, b, int(api.ErrToken))
		b[1] = g.request[2]
		do(t, x, b, int(api.ErrToken))
	}
	do(t, x, list(4, 0, 1, 1, 3), int(api.ErrRight))
	do(t, x, list(4, 0, 1, 3, 0), int(api.ErrRight))
	do(t, x, list(6, 0, 2, 0, 16, 8), int(api.ErrArg))
	do(t, x, list(6, 0, 2, 17, 0, 8), int(api.ErrNone))
	untouched(t, x)
}

// filterOf is a Filter of so many rules, which let all in.
func filterOf(token, number int) []byte {
	return append(list(8, 0, token, number), bytes.Repeat(list(1, 0, 0, 0, 0, 16), number)...)
}

func TestHowManyRules(t *testing.T) {
	x := theThree(t)
	derive(t, x, 2, api.Every-api.Policy, 4, api.OK)
	for number := range 256 {
		want := int(api.OK)
		if number > api.MaxRules {
			want = int(api.ErrArg)
		}
		b := filterOf(2, number)
		do(t, x, b, want)
		noRequest(t, x, b[:len(b)-1])
		noRequest(t, x, append(b, 0))
		noRequest(t, x, append(b, 1, 0, 0, 0, 0, 16))
		do(t, x, filterOf(4, number), int(api.ErrRight))
		do(t, x, filterOf(5, number), int(api.ErrToken))
	}
	count(t, x, 2, 1, 1, 1, 2)
}

// The rules are in their order, and the ones before are gone.
func TestRulesOfRequests(t *testing.T) {
	x := theTwo(t)
	do(t, x, list(8, 0, 2, 1, 1, 16, 0, 4, 4, 8), 0)
	do(t, x, list(11, 0, 2), 0, 2, 16, 0, 4, 7, 0, 16, 0, 8, 5, 1)
	do(t, x, list(8, 0, 2, 1, 1, 16, 0, 4, 3, 8), int(api.ErrArg))
	do(t, x, list(8, 0, 2, 1, 1, 16, 0, 3, 4, 8), int(api.ErrArg))
	do(t, x, list(8, 0, 2, 1, 1, 16, 0, 4, 8, 4), int(api.ErrArg))
	do(t, x, list(8, 0, 2, 1, 1, 16, 0, 4, 4, 17), int(api.ErrArg))
	do(t, x, list(8, 0, 2, 1, 1, 16, 0, 255, 255, 255), int(api.ErrArg))
	do(t, x, list(11, 0, 2), 0, 2, 16, 0, 4, 7, 0, 16, 0, 8, 5, 1)
	do(t, x, list(8, 0, 2, 2, 0, 16, 0, 4, 4, 4, 1, 0, 0, 0, 0, 16), 0)
	do(t, x, list(11, 0, 2), 0, 2, 0, 0, 0, 9, 0, 16, 0, 8, 5, 1)
	do(t, x, list(8, 0, 2, 2, 1, 0, 0, 0, 0, 16, 0, 16, 0, 4, 4, 4), 0)
	do(t, x, list(12, 0, 2), 0, 1, 1, 0, 1, 2)
	do(t, x, list(8, 0, 2, 1, 0, 0, 0, 0, 0, 16), 0)
	do(t, x, list(12, 0, 2), 0, 1, 0, 0, 0, 2)
	do(t, x, list(8, 0, 2, 0), 0)
	do(t, x, list(12, 0, 2), 0, 1, 1, 0, 1, 2)
}

// The greatest numbers that a call can tell.
func TestLargeAnswers(t *testing.T) {
	x := begin(t, api.MaxRoom)
	for i := range api.MaxTenants {
		do(t, x, list(1, 1), 0, i, 0, i+1)
	}
	do(t, x, list(1, 1), int(api.ErrTenant))
	for n := 9; n <= api.MaxTokens; n++ {
		do(t, x, list(3, 0, 8, 15), 0, 0, n)
	}
	do(t, x, list(3, 0, 8, 15), int(api.ErrTokens))
	do(t, x, list(5, 0, 100, 255, 255, 16, 255), 0)
	do(t, x, list(9, 0, 100, 255, 255), 0, 255, 255, 16, 255, 7)
	x = tenants(t, 1, api.MaxRoom)
	want := list(0, 64)
	for i := range api.MaxRoom {
		do(t, x, list(5, 0, 1, 255, 192+i, 16, 255-i), 0)
		want = append(want, list(255, 192+i, 16, 255-i, 0)...)
	}
	if b := x.Do(list(11, 0, 1)); !bytes.Equal(b, want) {
		t.Errorf("P10: a table of 64 routes: %v", b)
	}
	do(t, x, list(12, 0, 1), 0, 64, 0, 0, 0, 64)
	do(t, x, list(5, 0, 1, 0, 0, 0, 1), int(api.ErrQuota))
	x = begin(t, api.MaxRoom)
	create(t, x, 1, 0, 1, api.OK)
	create(t, x, 63, 1, 2, api.OK)
	insert(t, x, 1, 0, 0, 1, api.OK)
	share(t, x, 1, 0, 255, api.OK)
	share(t, x, 2, 255, 0, api.OK)
	for i := range 63 {
		insert(t, x, 2, i, 16, 1, api.OK)
	}
	do(t, x, list(12, 0, 1), 0, 1, 0, 0, 63, 1)
}

// A request that is handed in is not written into, nor what stands behind it.
func TestRequestHandedIn(t *testing.T) {
	for _, g := range good() {
		for length := range len(g.request) + 2 {
			behind := append(bytes.Clone(g.request), bytes.Repeat(list(77), 300)...)
			kept := bytes.Clone(behind)
			theThree(t).Do(behind[:length])
			if !bytes.Equal(behind, kept) {
				t.Errorf("P2: Do(%v) wrote into the request", kept[:length])
			}
		}
	}
}

// smear writes into bytes and into their spare room.
func smear(b []byte) {
	b = b[:cap(b)]
	for i := range b {
		b[i] = 99
	}
}

// A request is the caller's, who may change it later: the engine keeps none of it.
func TestRequestIsNotKept(t *testing.T) {
	x := theTwo(t)
	for _, b := range [][]byte{list(8, 0, 2, 1, 1, 16, 0, 4, 4, 8), list(5, 0, 1, 0, 2, 15, 6), list(7, 0, 2, 4, 1)} {
		do(t, x, b, 0)
		smear(b)
	}
	table(t, x, 1, route(0, 0, 9, 0), route(2, 15, 6, 0), route(4096, 4, 7, 0))
	table(t, x, 2, route(4096, 4, 7, 0), route(4096, 8, 5, 1))
	count(t, x, 2, 1, 1, 0, 2)
}

// Answers are fresh: one written into changes neither the engine, nor the request, nor
// another answer that came before it or comes behind it.
func TestAnswersAreFresh(t *testing.T) {
	for _, g := range append(good(), asking{nil, list(1)}, asking{list(2, 9), list(5)}, asking{list(12, 0, 9), list(3)}) {
		x, y := theThree(t), theThree(t)
		earlier := [][]byte{bytes.Clone(g.request), x.Do(nil), x.Do(list(11, 0, 1)), x.Do(list(12, 0, 1))}
		kept := [][]byte{g.request, list(1), bytes.Clone(y.Do(list(11, 0, 1))), bytes.Clone(y.Do(list(12, 0, 1)))}
		answer := x.Do(earlier[0])
		y.Do(g.request)
		smear(answer)
		if !slices.EqualFunc(earlier, kept, bytes.Equal) {
			t.Errorf("P2: the answer to %v has a place in common with another list", g.request)
		}
		for _, h := range good() {
			later, want := x.Do(h.request), bytes.Clone(y.Do(h.request))
			smear(answer)
			smear(earlier[2])
			if !bytes.Equal(later, want) {
				t.Errorf("P2: Do(%v) behind Do(%v) is %v, want %v", h.request, g.request, later, want)
			}
		}
	}
}
