package district

import (
	"district/api"
	"district/filter"
	"district/routes"
)

// member is what an engine keeps of a tenant. A tenant's quota is at least 1:
// where it is 0, no tenant has the number, and the member is the zero one.
type member struct {
	quota        int
	gives, takes int
	rules        filter.Rules
	own          routes.List
}

func (x *Engine) isTenant(number int) bool {
	return number >= 0 && number < api.MaxTenants && x.tenants[number].quota > 0
}

// freeNumber is the least number that no tenant has, or MaxTenants if all are taken.
func (x *Engine) freeNumber() int {
	number := 0
	for number < api.MaxTenants && x.tenants[number].quota > 0 {
		number++
	}
	return number
}

func (x *Engine) quotas() int {
	sum := 0
	for i := 0; i < api.MaxTenants; i++ {
		sum += x.tenants[i].quota
	}
	return sum
}
