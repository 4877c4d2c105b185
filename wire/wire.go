// Package wire: the bytes of requests, and of what is answered to them (P9).
package wire

import "district/api"

// Where the fields stand that tell whether bytes are a request, and that Rules reads.
const (
	strictAt  = 6 // of a Pass
	rulesAt   = 3 // how many rules a Filter has
	firstRule = 4
	ruleSize  = 6
)

// IsRequest tells whether bytes are a request: its number, its fields and nothing behind them.
func IsRequest(request []byte) bool {
	return len(request) == size(request) && flagsFit(request)
}

// Byte is the field of one byte at a place of a request, and 0 where there is none.
func Byte(request []byte, at int) int {
	if at < 0 || at >= len(request) {
		return 0
	}
	return int(request[at])
}

// Word is the field of two bytes at a place of a request, the high byte first.
func Word(request []byte, at int) int {
	return Byte(request, at)<<8 | Byte(request, at+1)
}

// Flag tells whether the field at a place of a request is 1.
func Flag(request []byte, at int) bool { return Byte(request, at) == 1 }

// Rules are the rules of a Filter.
func Rules(request []byte) []api.Rule {
	var rules []api.Rule
	for i := 0; i < Byte(request, rulesAt); i++ {
		rules = append(rules, rule(request, firstRule+ruleSize*i))
	}
	return rules
}

func rule(request []byte, at int) api.Rule {
	return api.Rule{
		Allow: Flag(request, at),
		Addr:  Word(request, at+1),
		Len:   Byte(request, at+3),
		Ge:    Byte(request, at+4),
		Le:    Byte(request, at+5),
	}
}

// size is how long a request is by its number and, if it is a Filter, by how many rules
// it says that it has. It is -1 where there is no such number, so that no bytes fit.
func size(request []byte) int {
	switch Byte(request, 0) {
	case api.ReqCreate, api.ReqDrop:
		return 2
	case api.ReqTable, api.ReqCount:
		return 3
	case api.ReqDerive:
		return 4
	case api.ReqRevoke, api.ReqShare, api.ReqLookup:
		return 5
	case api.ReqRemove:
		return 6
	case api.ReqInsert, api.ReqPass:
		return 7
	case api.ReqFilter:
		return firstRule + ruleSize*Byte(request, rulesAt)
	}
	return -1
}

// flagsFit tells whether every Allow and strict is 0 or 1.
func flagsFit(request []byte) bool {
	switch Byte(request, 0) {
	case api.ReqPass:
		return Byte(request, strictAt) <= 1
	case api.ReqFilter:
		for i := 0; i < Byte(request, rulesAt); i++ {
			if Byte(request, firstRule+ruleSize*i) > 1 {
				return false
			}
		}
	}
	return true
}
