// Package prefix: which numbers are a prefix, what it contains, and the order of prefixes.
package prefix

import "district/api"

// IsAddr tells whether a number is an address.
func IsAddr(number int) bool { return number >= 0 && number <= api.MaxAddr }

// Is tells whether the two numbers are a prefix: no bit of the address is set behind the length.
func Is(addr int, length int) bool {
	if !IsAddr(addr) || length < 0 || length > api.Bits {
		return false
	}
	return head(addr, length) == addr
}

// Contains tells whether a prefix contains an address. Numbers that are no prefix contain
// nothing, and what is no address is contained in nothing.
func Contains(addr int, length int, other int) bool {
	if !Is(addr, length) {
		return false
	}
	return head(other, length) == addr
}

// Before tells whether the first prefix stands before the second one in the order of prefixes.
func Before(addr int, length int, otherAddr int, otherLength int) bool {
	if addr != otherAddr {
		return addr < otherAddr
	}
	return length < otherLength
}

// head wants a length from 0 to Bits. The bits above an address stay, so that the head of
// a number that is no address is no address either.
func head(addr int, length int) int {
	rest := api.Bits - length
	return addr >> rest << rest
}
