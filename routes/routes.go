// Package routes: lists of routes in the order of their prefixes.
package routes

import (
	"district/api"
	"district/prefix"
)

// List holds routes in the order of their prefixes, no two of one prefix. The zero List
// holds none. It is an array and no slice, so that a copy of a List has no place in
// common with it.
type List struct {
	count int
	list  [api.MaxRoom]api.Route
}

// Len is how many routes there are.
func (l *List) Len() int { return l.count }

// At is the route at a place from 0 on; behind the last one it is the zero route.
func (l *List) At(place int) api.Route {
	if place < 0 || place >= l.count {
		return api.Route{}
	}
	return l.list[place]
}

// Has tells whether there is a route of this prefix.
func (l *List) Has(addr int, length int) bool {
	place := l.place(addr, length)
	return l.standsAt(place, addr, length)
}

// Longest is the route with the greatest Len of those that contain an address. It is
// ErrNone if none does.
func (l *List) Longest(addr int) (api.Route, api.Errno) {
	// Of two prefixes that contain one address the longer stands behind the other in the
	// order of prefixes: it is the last one that counts.
	for i := l.count - 1; i >= 0; i-- {
		if prefix.Contains(l.list[i].Addr, l.list[i].Len, addr) {
			return l.list[i], api.OK
		}
	}
	return api.Route{}, api.ErrNone
}

// Leads tells whether some route that contains an address has another Hop than 0.
func (l *List) Leads(addr int) bool {
	for i := 0; i < l.count; i++ {
		if l.list[i].Hop != 0 && prefix.Contains(l.list[i].Addr, l.list[i].Len, addr) {
			return true
		}
	}
	return false
}

// Put sets a route, in the place of one of the same prefix. It is ErrQuota if there is
// none of this prefix, and as many routes as there may be.
func (l *List) Put(route api.Route, most int) api.Errno {
	place := l.place(route.Addr, route.Len)
	if l.standsAt(place, route.Addr, route.Len) {
		l.list[place] = route
		return api.OK
	}
	if l.count >= most || l.count >= api.MaxRoom {
		return api.ErrQuota
	}
	for i := l.count; i > place; i-- {
		l.list[i] = l.list[i-1]
	}
	l.list[place] = route
	l.count++
	return api.OK
}

// Remove takes the route of a prefix away. It is ErrNone if there is none.
func (l *List) Remove(addr int, length int) api.Errno {
	place := l.place(addr, length)
	if !l.standsAt(place, addr, length) {
		return api.ErrNone
	}
	l.count--
	for i := place; i < l.count; i++ {
		l.list[i] = l.list[i+1]
	}
	// The place that is free now keeps nothing of what stood there.
	l.list[l.count] = api.Route{}
	return api.OK
}

// All is a fresh slice of all routes.
func (l *List) All() []api.Route {
	var all []api.Route
	for i := 0; i < l.count; i++ {
		all = append(all, l.list[i])
	}
	return all
}

// place is where the route of a prefix stands, or would have to stand.
func (l *List) place(addr int, length int) int {
	i := 0
	for i < l.count && prefix.Before(l.list[i].Addr, l.list[i].Len, addr, length) {
		i++
	}
	return i
}

func (l *List) standsAt(place int, addr int, length int) bool {
	return place < l.count && l.list[place].Addr == addr && l.list[place].Len == length
}
