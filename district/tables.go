package district

import (
	"district/api"
	"district/routes"
)

// table is the table of a tenant, and its sums (P7). It is made anew at every call: so it
// hangs on what is the case now, and not on what came first.
func (x *Engine) table(tenant int) (routes.List, api.Sums) {
	table := x.tenants[tenant].own
	sums := api.Sums{Own: table.Len(), Quota: x.tenants[tenant].quota}
	offers := x.offers(tenant)
	for i := 0; i < offers.Len(); i++ {
		offer := offers.At(i)
		fault := table.Put(offer, sums.Quota)
		if fault == api.OK {
			sums.Taken++
		} else {
			sums.Dropped++
		}
	}
	return table, sums
}

// offers are the routes that are on offer to a tenant. They find their places in a List:
// the quotas of all tenants are together not above MaxRoom.
func (x *Engine) offers(tenant int) routes.List {
	var offers routes.List
	for giver := 0; giver < api.MaxTenants; giver++ {
		if giver != tenant && x.tenants[giver].gives&x.tenants[tenant].takes != 0 {
			x.gather(tenant, giver, &offers)
		}
	}
	return offers
}

// gather is called with lesser givers first: their routes stay.
func (x *Engine) gather(tenant int, giver int, offers *routes.List) {
	for i := 0; i < x.tenants[giver].own.Len(); i++ {
		route := x.tenants[giver].own.At(i)
		known := offers.Has(route.Addr, route.Len)
		if !known && x.wants(tenant, route) {
			offers.Put(route, api.MaxRoom)
		}
	}
}

func (x *Engine) wants(tenant int, route api.Route) bool {
	if x.tenants[tenant].own.Has(route.Addr, route.Len) {
		return false
	}
	return x.tenants[tenant].rules.LetsIn(route.Addr, route.Len)
}

func isHop(hop int) bool { return hop >= 0 && hop <= api.MaxHop }
