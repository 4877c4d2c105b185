package wire

import "district/api"

// Answer is the byte of an error alone, or a byte 0 and the fields.
func Answer(fault api.Errno, fields []byte) []byte {
	answer := []byte{byte(fault)}
	if fault == api.OK {
		answer = append(answer, fields...)
	}
	return answer
}

// Created are the fields of the answer to a Create.
func Created(tenant int, token int) []byte {
	return []byte{byte(tenant), high(token), low(token)}
}

// Token is the field of the answer to a Derive.
func Token(token int) []byte {
	return []byte{high(token), low(token)}
}

// Route are the fields of a route.
func Route(route api.Route) []byte {
	return []byte{high(route.Addr), low(route.Addr), byte(route.Len), byte(route.Hop), byte(route.From)}
}

// Truth is the field of the answer to a Pass.
func Truth(truth bool) []byte {
	if truth {
		return []byte{1}
	}
	return []byte{0}
}

// Routes are the fields of the answer to a Table.
func Routes(routes []api.Route) []byte {
	fields := []byte{byte(len(routes))}
	for i := 0; i < len(routes); i++ {
		fields = append(fields, Route(routes[i])...)
	}
	return fields
}

// Sums are the fields of the answer to a Count.
func Sums(sums api.Sums) []byte {
	return []byte{byte(sums.Own), byte(sums.Taken), high(sums.Dropped), low(sums.Dropped), byte(sums.Quota)}
}

func high(number int) byte { return byte(number >> 8) }

func low(number int) byte { return byte(number) }
