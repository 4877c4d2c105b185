package district

import (
	"district/api"
	"district/wire"
)

// Fields are read by the places at which they stand behind the number of the request,
// which is at place 0. But for Create and Drop the first field is the token, at 1 and 2.

func (x *Engine) doCreate(request []byte) []byte {
	tenant, token, fault := x.Create(wire.Byte(request, 1))
	return wire.Answer(fault, wire.Created(tenant, token))
}

func (x *Engine) doDerive(request []byte) []byte {
	token, fault := x.Derive(wire.Word(request, 1), wire.Byte(request, 3))
	return wire.Answer(fault, wire.Token(token))
}

func (x *Engine) doLookup(request []byte) []byte {
	route, fault := x.Lookup(wire.Word(request, 1), wire.Word(request, 3))
	return wire.Answer(fault, wire.Route(route))
}

func (x *Engine) doPass(request []byte) []byte {
	strict := wire.Flag(request, 6)
	passes, fault := x.Pass(wire.Word(request, 1), wire.Word(request, 3), wire.Byte(request, 5), strict)
	return wire.Answer(fault, wire.Truth(passes))
}

func (x *Engine) doTable(request []byte) []byte {
	table, fault := x.Table(wire.Word(request, 1))
	return wire.Answer(fault, wire.Routes(table))
}

func (x *Engine) doCount(request []byte) []byte {
	sums, fault := x.Count(wire.Word(request, 1))
	return wire.Answer(fault, wire.Sums(sums))
}

// change carries out a request that is answered by the byte of the error alone, OK or not.
func (x *Engine) change(request []byte) api.Errno {
	token := wire.Word(request, 1)
	switch wire.Byte(request, 0) {
	case api.ReqDrop:
		return x.Drop(wire.Byte(request, 1))
	case api.ReqRevoke:
		return x.Revoke(token, wire.Word(request, 3))
	case api.ReqInsert:
		return x.Insert(token, wire.Word(request, 3), wire.Byte(request, 5), wire.Byte(request, 6))
	case api.ReqRemove:
		return x.Remove(token, wire.Word(request, 3), wire.Byte(request, 5))
	case api.ReqShare:
		return x.Share(token, wire.Byte(request, 3), wire.Byte(request, 4))
	case api.ReqFilter:
		return x.Filter(token, wire.Rules(request))
	}
	return api.ErrForm
}
