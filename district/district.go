// Package district: tables of routes of several tenants: see DOC.md.
package district

import (
	"district/api"
	"district/filter"
	"district/prefix"
	"district/tokens"
	"district/wire"
)

// Engine holds the tenants.
type Engine struct {
	room    int
	tenants [api.MaxTenants]member
	tokens  tokens.Book
}

// New makes an engine (P3).
func New(room int) (*Engine, api.Errno) {
	if room < 1 || room > api.MaxRoom {
		return nil, api.ErrArg
	}
	return &Engine{room: room}, api.OK
}

// Create makes a tenant, and tells its number and its first token (P3).
func (x *Engine) Create(quota int) (int, int, api.Errno) {
	if quota < 1 || quota > api.MaxRoom {
		return 0, 0, api.ErrArg
	}
	number := x.freeNumber()
	if number >= api.MaxTenants {
		return 0, 0, api.ErrTenant
	}
	if x.quotas()+quota > x.room {
		return 0, 0, api.ErrRoom
	}
	token, fault := x.tokens.First(number)
	if fault != api.OK {
		return 0, 0, fault
	}
	x.tenants[number] = member{quota: quota}
	return number, token, api.OK
}

// Drop ends a tenant (P3).
func (x *Engine) Drop(tenant int) api.Errno {
	if !x.isTenant(tenant) {
		return api.ErrTenant
	}
	x.tenants[tenant] = member{}
	x.tokens.EndAll(tenant)
	return api.OK
}

// Derive makes a token out of another (P4).
func (x *Engine) Derive(token int, rights int) (int, api.Errno) {
	return x.tokens.Derive(token, rights)
}

// Revoke ends a token, and all that were made out of it (P4).
func (x *Engine) Revoke(token int, which int) api.Errno {
	return x.tokens.Revoke(token, which)
}

// Insert sets a route (P5).
func (x *Engine) Insert(token int, addr int, length int, hop int) api.Errno {
	tenant, fault := x.tokens.Tenant(token, api.Write)
	if fault != api.OK {
		return fault
	}
	if !isHop(hop) || !prefix.Is(addr, length) {
		return api.ErrArg
	}
	route := api.Route{Addr: addr, Len: length, Hop: hop, From: tenant}
	quota := x.tenants[tenant].quota
	return x.tenants[tenant].own.Put(route, quota)
}

// Remove takes a route away (P5).
func (x *Engine) Remove(token int, addr int, length int) api.Errno {
	tenant, fault := x.tokens.Tenant(token, api.Write)
	if fault != api.OK {
		return fault
	}
	if !prefix.Is(addr, length) {
		return api.ErrArg
	}
	return x.tenants[tenant].own.Remove(addr, length)
}

// Share says by which marks a tenant gives and takes (P6).
func (x *Engine) Share(token int, gives int, takes int) api.Errno {
	tenant, fault := x.tokens.Tenant(token, api.Policy)
	if fault != api.OK {
		return fault
	}
	if gives < 0 || gives > api.MaxMask || takes < 0 || takes > api.MaxMask {
		return api.ErrArg
	}
	x.tenants[tenant].gives = gives
	x.tenants[tenant].takes = takes
	return api.OK
}

// Filter says which prefixes a tenant takes (P6).
func (x *Engine) Filter(token int, rules []api.Rule) api.Errno {
	tenant, fault := x.tokens.Tenant(token, api.Policy)
	if fault != api.OK {
		return fault
	}
	made, fault := filter.Make(rules)
	if fault != api.OK {
		return fault
	}
	x.tenants[tenant].rules = made
	return api.OK
}

// Table tells all routes of a tenant's table (P7).
func (x *Engine) Table(token int) ([]api.Route, api.Errno) {
	tenant, fault := x.tokens.Tenant(token, api.Read)
	if fault != api.OK {
		return nil, fault
	}
	table, _ := x.table(tenant)
	return table.All(), api.OK
}

// Count tells how many there are (P7).
func (x *Engine) Count(token int) (api.Sums, api.Errno) {
	tenant, fault := x.tokens.Tenant(token, api.Read)
	if fault != api.OK {
		return api.Sums{}, fault
	}
	_, sums := x.table(tenant)
	return sums, api.OK
}

// Lookup tells the route for an address (P8).
func (x *Engine) Lookup(token int, addr int) (api.Route, api.Errno) {
	tenant, fault := x.tokens.Tenant(token, api.Read)
	if fault != api.OK {
		return api.Route{}, fault
	}
	if !prefix.IsAddr(addr) {
		return api.Route{}, api.ErrArg
	}
	table, _ := x.table(tenant)
	return table.Longest(addr)
}

// Pass tells whether an address may come in by a hop (P8).
func (x *Engine) Pass(token int, addr int, hop int, strict bool) (bool, api.Errno) {
	tenant, fault := x.tokens.Tenant(token, api.Read)
	if fault != api.OK {
		return false, fault
	}
	if !prefix.IsAddr(addr) || !isHop(hop) {
		return false, api.ErrArg
	}
	table, _ := x.table(tenant)
	if !strict {
		return table.Leads(addr), api.OK
	}
	// Where no route contains the address, the route is the zero one, and has the hop 0.
	route, _ := table.Longest(addr)
	return hop != 0 && route.Hop == hop, api.OK
}

// Do carries out a request (P9, P10).
func (x *Engine) Do(request []byte) []byte {
	if !wire.IsRequest(request) {
		return wire.Answer(api.ErrForm, nil)
	}
	switch wire.Byte(request, 0) {
	case api.ReqCreate:
		return x.doCreate(request)
	case api.ReqDerive:
		return x.doDerive(request)
	case api.ReqLookup:
		return x.doLookup(request)
	case api.ReqPass:
		return x.doPass(request)
	case api.ReqTable:
		return x.doTable(request)
	case api.ReqCount:
		return x.doCount(request)
	}
	fault := x.change(request)
	return wire.Answer(fault, nil)
}
