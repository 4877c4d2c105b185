// Package filter: which prefixes a tenant lets in (P6).
package filter

import (
	"district/api"
	"district/prefix"
)

// Rules are the rules of a filter, in their order; the zero Rules are none.
type Rules struct {
	count int
	list  [api.MaxRules]api.Rule
}

// Make copies a caller's rules. It is ErrArg if there are too many, or one of them may not be.
func Make(rules []api.Rule) (Rules, api.Errno) {
	if len(rules) > api.MaxRules {
		return Rules{}, api.ErrArg
	}
	var made Rules
	for i := 0; i < len(rules); i++ {
		if !isRule(rules[i]) {
			return Rules{}, api.ErrArg
		}
		made.list[i] = rules[i]
	}
	made.count = len(rules)
	return made, api.OK
}

// LetsIn tells whether a prefix is let in.
func (r *Rules) LetsIn(addr int, length int) bool {
	for i := 0; i < r.count; i++ {
		if matches(r.list[i], addr, length) {
			return r.list[i].Allow
		}
	}
	return r.count == 0
}

func isRule(rule api.Rule) bool {
	if rule.Ge < rule.Len || rule.Le < rule.Ge || rule.Le > api.Bits {
		return false
	}
	return prefix.Is(rule.Addr, rule.Len)
}

func matches(rule api.Rule, addr int, length int) bool {
	if length < rule.Ge || length > rule.Le {
		return false
	}
	return prefix.Contains(rule.Addr, rule.Len, addr)
}
