package wire

import (
	"bytes"
	"slices"
	"testing"

	"district/api"
)

const (
	most  = 1<<63 - 1
	least = -1 << 63
)

// fields are those of the document's table: b and w, and f for a byte that is 0 or 1.
// Filter, whose length hangs on its rules, has tests of its own.
var fields = map[int]string{
	1: "b", 2: "b", 3: "wb", 4: "ww", 5: "wwbb", 6: "wwb", 7: "wbb", 9: "ww", 10: "wwbf", 11: "w", 12: "w",
}

// filled is a request with every byte behind the number the same.
func filled(number, length, fill int) []byte {
	return append([]byte{byte(number)}, bytes.Repeat([]byte{byte(fill)}, length-1)...)
}

func lengthOf(fields string) int {
	length := 1
	for _, f := range fields {
		length++
		if f == 'w' {
			length++
		}
	}
	return length
}

func isRequest(t *testing.T, request []byte, want bool) {
	t.Helper()
	if IsRequest(request) != want {
		t.Errorf("P10: IsRequest(%v) is not %v", request, want)
	}
}

func TestNumbersAndLengths(t *testing.T) {
	isRequest(t, nil, false)
	isRequest(t, []byte{}, false)
	for number := range 256 {
		if number == api.ReqFilter {
			continue
		}
		known, there := fields[number]
		for length := 1; length < 300; length++ {
			want := there && length == lengthOf(known)
			isRequest(t, filled(number, length, 0), want)
			isRequest(t, filled(number, length, 1), want)
			isRequest(t, filled(number, length, 255), want && number != api.ReqPass)
		}
	}
}

func TestStrictIs0Or1(t *testing.T) {
	for strict := range 256 {
		isRequest(t, []byte{api.ReqPass, 255, 255, 255, 255, 255, byte(strict)}, strict <= 1)
	}
}

// filterOf is a Filter of so many rules, which are all let in.
func filterOf(count int) []byte {
	request := []byte{api.ReqFilter, 255, 255, byte(count)}
	for range count {
		request = append(request, 1, 255, 255, 255, 255, 255)
	}
	return request
}

func TestLengthsOfFilter(t *testing.T) {
	for length := range 4 {
		isRequest(t, filterOf(0)[:length], false)
		isRequest(t, filterOf(1)[:length], false)
	}
	for count := range 256 {
		request := filterOf(count)
		isRequest(t, request, true)
		for short := 1; short <= 7 && short < len(request); short++ {
			isRequest(t, request[:len(request)-short], false)
		}
		for long := 1; long <= 7; long++ {
			isRequest(t, append(request, make([]byte, long)...), false)
		}
	}
}

func TestEveryAllowIs0Or1(t *testing.T) {
	for count := 1; count < 256; count++ {
		request := filterOf(count)
		for place := range count {
			for _, allow := range []byte{0, 2, 3, 128, 255} {
				request[4+6*place] = allow
				if IsRequest(request) != (allow == 0) {
					t.Fatalf("P10: of %d rules, Allow %d at rule %d", count, allow, place)
				}
			}
			request[4+6*place] = byte(place % 2)
		}
		isRequest(t, request, true)
	}
}

func TestFields(t *testing.T) {
	request := []byte{1, 2, 0, 255, 255}
	for at, want := range []int{1, 2, 0, 255, 255, 0, 0} {
		if Byte(request, at) != want {
			t.Errorf("P9: Byte(%v, %d) = %d, want %d", request, at, Byte(request, at), want)
		}
		if Flag(request, at) != (want == 1) {
			t.Errorf("P9: Flag(%v, %d) is not %v", request, at, want == 1)
		}
	}
	for at, want := range []int{258, 512, 255, 65535, 65280, 0, 0} {
		if Word(request, at) != want {
			t.Errorf("P9: Word(%v, %d) = %d, want %d", request, at, Word(request, at), want)
		}
	}
	for _, at := range []int{least, -7, most - 1, most} {
		if Byte(request, at) != 0 || Word(request, at) != 0 || Flag(request, at) || Byte(nil, at) != 0 {
			t.Errorf("P1: a field at %d is not 0", at)
		}
	}
}

func TestRules(t *testing.T) {
	if l := Rules([]byte{8, 0, 1, 0}); len(l) != 0 {
		t.Errorf("P9: no rules: %v", l)
	}
	request := []byte{8, 3, 4, 2, 1, 16, 7, 4, 5, 8, 0, 255, 254, 253, 252, 251}
	want := []api.Rule{
		{Allow: true, Addr: 4103, Len: 4, Ge: 5, Le: 8},
		{Allow: false, Addr: 65534, Len: 253, Ge: 252, Le: 251},
	}
	if l := Rules(request); !slices.Equal(l, want) {
		t.Errorf("P9: rules: %v, want %v", l, want)
	}
	if l := Rules(filterOf(255)); len(l) != 255 || l[254] != (api.Rule{Allow: true, Addr: 65535, Len: 255, Ge: 255, Le: 255}) {
		t.Errorf("P9: 255 rules: %v", l)
	}
}
