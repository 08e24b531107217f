package machine

import (
	"assay/api"
	"assay/kinds"
	"assay/lineage"
)

// isReady tells whether all is as the instruction at hand must have it.
//
// Null as the object of GET, PUT or CALL is: with it the run ends otherwise
// than with Fault. That hides no Fault, since these need no room, which alone
// would be asked for behind it.
func (m *machine) isReady(f *frame, ins api.Ins) bool {
	wanted := m.wants(f, ins)
	rest := len(f.stack) - len(wanted)
	if rest < 0 {
		return false
	}
	for k, t := range wanted {
		if !kinds.Below(m.p, f.stack[rest+k].kind, t) {
			return false
		}
	}
	if ins.Op == api.LOAD && f.locals[ins.A].kind == api.Top {
		return false
	}
	return !needsRoom(ins.Op) || len(f.stack) < f.method.Stack
}

// wants is the types of what an instruction takes, the top one last.
func (m *machine) wants(f *frame, ins api.Ins) []api.Type {
	switch ins.Op {
	case api.STORE, api.POP, api.DUP:
		return []api.Type{api.Top}
	case api.SWAP:
		return []api.Type{api.Top, api.Top}
	case api.ADD, api.SUB, api.MUL, api.DIV:
		return []api.Type{api.Int, api.Int}
	case api.IFZERO, api.PRINT:
		return []api.Type{api.Int}
	case api.IFNULL, api.CAST:
		// All classes are below class 0.
		return []api.Type{kinds.Of(0)}
	case api.GET:
		return []api.Type{kinds.Of(ins.A)}
	case api.PUT:
		return []api.Type{kinds.Of(ins.A), lineage.Fields(m.p, ins.A)[ins.B]}
	case api.CALL:
		return append([]api.Type{kinds.Of(ins.A)}, m.find(ins.A, ins.B).Args...)
	case api.RET:
		return []api.Type{f.method.Ret}
	}
	return nil
}

// needsRoom tells whether an instruction leaves one value more than it takes.
// All others leave no more than they take, and so have room for it.
func needsRoom(op int) bool {
	switch op {
	case api.NUM, api.LOAD, api.NEW, api.NULL, api.DUP:
		return true
	}
	return false
}
