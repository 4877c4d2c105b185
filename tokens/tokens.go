// Package tokens: the tokens that an engine has given out, and what they may do (P4).
package tokens

import "district/api"

// entry is one token: for which tenant, with which rights, made out of which other one (0: none).
type entry struct {
	tenant, rights, parent int
	ended                  bool
}

// Book holds the tokens of one engine; the zero Book has given out none.
// Token n stands at place n-1: no entry is ever taken out, so no number comes twice,
// and a token's parent always has a lesser number than the token.
type Book struct {
	given int
	list  [api.MaxTokens]entry
}

// First gives out a token with every right, for a tenant that is new.
func (b *Book) First(tenant int) (int, api.Errno) {
	return b.add(entry{tenant: tenant, rights: api.Every})
}

// Derive gives out a token made out of another one.
func (b *Book) Derive(token int, rights int) (int, api.Errno) {
	if !b.alive(token) {
		return 0, api.ErrToken
	}
	if rights < 0 || rights > api.Every {
		return 0, api.ErrArg
	}
	tenant, fault := b.Tenant(token, rights|api.Grant)
	if fault != api.OK {
		return 0, fault
	}
	return b.add(entry{tenant: tenant, rights: rights, parent: token})
}

// Revoke ends a token that was made out of the first one.
func (b *Book) Revoke(token int, which int) api.Errno {
	_, fault := b.Tenant(token, api.Grant)
	if fault != api.OK {
		return fault
	}
	if !b.madeOutOf(which, token) {
		return api.ErrRight
	}
	b.list[which-1].ended = true
	return api.OK
}

// Tenant is the tenant that a call with the token is about. It is ErrToken if the token
// is not alive, ErrRight if it does not have all of the rights.
func (b *Book) Tenant(token int, rights int) (int, api.Errno) {
	if !b.alive(token) {
		return 0, api.ErrToken
	}
	if b.list[token-1].rights&rights != rights {
		return 0, api.ErrRight
	}
	return b.list[token-1].tenant, api.OK
}

// EndAll ends every token of a tenant. Those of an earlier tenant of the same number
// were ended when that one was dropped, so that it does no harm to end them again.
func (b *Book) EndAll(tenant int) {
	for i := 0; i < b.given; i++ {
		if b.list[i].tenant == tenant {
			b.list[i].ended = true
		}
	}
}

func (b *Book) add(e entry) (int, api.Errno) {
	if b.given >= api.MaxTokens {
		return 0, api.ErrTokens
	}
	b.list[b.given] = e
	b.given++
	return b.given, api.OK
}

func (b *Book) wasGiven(token int) bool {
	return token >= 1 && token <= b.given
}

func (b *Book) alive(token int) bool {
	if !b.wasGiven(token) {
		return false
	}
	// Parents have lesser numbers, so the way up ends at 0.
	for t := token; t > 0; t = b.list[t-1].parent {
		if b.list[t-1].ended {
			return false
		}
	}
	return true
}

// madeOutOf wants a token that was given out; which may be any number. A token is not
// made out of itself: the way up begins at its parent.
func (b *Book) madeOutOf(which int, token int) bool {
	if !b.wasGiven(which) {
		return false
	}
	t := b.list[which-1].parent
	for t > token {
		t = b.list[t-1].parent
	}
	return t == token
}
