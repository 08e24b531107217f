package machine

import (
	"assay/api"
	"assay/kinds"
	"assay/lineage"
)

// isReady tells whether all is as the instruction at hand must have it.
//
// Null as the object of GET, PUT or CALL is: with it the run ends otherwise
// than with Fault. It hides no Fault that would be asked for behind it, since
// of these three each leaves no more than it takes.
func (m *machine) isReady(f *frame, ins api.Ins) bool {
	wanted := m.wants(f, ins)
	rest := len(f.stack) - len(wanted)
	if rest < 0 {
		return false
	}
	for k, t := range wanted {
		if !kinds.Below(m.p, f.stack[rest+k].kind, t) {
			return false
		}
	}
	if ins.Op == api.LOAD && f.locals[ins.A].kind == api.Top {
		return false
	}
	return rest+countLeft(ins.Op) <= f.method.Stack
}

// wants is the types of what an instruction takes, the top one last.
func (m *machine) wants(f *frame, ins api.Ins) []api.Type {
	switch ins.Op {
	case api.STORE, api.POP, api.DUP:
		return []api.Type{api.Top}
	case api.SWAP:
		return []api.Type{api.Top, api.Top}
	case api.ADD, api.SUB, api.MUL, api.DIV:
		return []api.Type{api.Int, api.Int}
	case api.IFZERO, api.PRINT:
		return []api.Type{api.Int}
	case api.IFNULL, api.CAST:
		// All classes are below class 0.
		return []api.Type{kinds.Of(0)}
	case api.GET:
		return []api.Type{kinds.Of(ins.A)}
	case api.PUT:
		return []api.Type{kinds.Of(ins.A), lineage.Fields(m.p, ins.A)[ins.B]}
	case api.CALL:
		return append([]api.Type{kinds.Of(ins.A)}, m.find(ins.A, ins.B).Args...)
	case api.RET:
		return []api.Type{f.method.Ret}
	}
	return nil
}

// countLeft is how many values an instruction leaves in place of those it takes.
func countLeft(op int) int {
	switch op {
	case api.STORE, api.GOTO, api.IFZERO, api.PUT, api.RET, api.POP, api.IFNULL, api.PRINT:
		return 0
	case api.DUP, api.SWAP:
		return 2
	}
	return 1
}
