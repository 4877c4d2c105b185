package wire

import (
	"bytes"
	"testing"

	"district/api"
)

func equal(t *testing.T, b []byte, want ...byte) {
	t.Helper()
	if !bytes.Equal(b, want) {
		t.Errorf("P9: %v, want %v", b, want)
	}
}

func TestAnswer(t *testing.T) {
	equal(t, Answer(api.OK, nil), 0)
	equal(t, Answer(api.OK, []byte{}), 0)
	equal(t, Answer(api.OK, []byte{5, 0, 6}), 0, 5, 0, 6)
	for fault := api.ErrForm; fault <= api.ErrNone; fault++ {
		equal(t, Answer(fault, nil), byte(fault))
		equal(t, Answer(fault, []byte{5, 0, 6}), byte(fault))
	}
}

// An answer has no place in common with the fields, nor writes behind them.
func TestAnswerIsFresh(t *testing.T) {
	given := []byte{1, 2, 3, 4, 5, 6}
	answer := Answer(api.OK, given[:3])
	answer = answer[:cap(answer)]
	for i := range answer {
		answer[i] = 99
	}
	equal(t, given, 1, 2, 3, 4, 5, 6)
}

func TestFieldsOfAnswers(t *testing.T) {
	equal(t, Created(7, 100), 7, 0, 100)
	equal(t, Created(0, 258), 0, 1, 2)
	equal(t, Token(1), 0, 1)
	equal(t, Token(65534), 255, 254)
	equal(t, Route(api.Route{}), 0, 0, 0, 0, 0)
	equal(t, Route(api.Route{Addr: 4103, Len: 16, Hop: 255, From: 7}), 16, 7, 16, 255, 7)
	equal(t, Truth(true), 1)
	equal(t, Truth(false), 0)
	equal(t, Sums(api.Sums{Own: 1, Taken: 2, Dropped: 772, Quota: 64}), 1, 2, 3, 4, 64)
}

func TestFieldsOfTables(t *testing.T) {
	equal(t, Routes(nil), 0)
	equal(t, Routes([]api.Route{}), 0)
	equal(t, Routes([]api.Route{{Addr: 258, Len: 3, Hop: 4, From: 5}, {Addr: 65535, Len: 16, Hop: 255, From: 7}}),
		2, 1, 2, 3, 4, 5, 255, 255, 16, 255, 7)
	l := make([]api.Route, 64)
	for i := range l {
		l[i] = api.Route{Addr: i, Len: 16, Hop: i, From: 1}
	}
	b := Routes(l)
	if len(b) != 1+64*5 || b[0] != 64 || !bytes.Equal(b[316:], []byte{0, 63, 16, 63, 1}) {
		t.Errorf("P9: 64 routes: %v", b)
	}
}
