package shape

import (
	"assay/api"
	"assay/lineage"
)

func allCodeHolds(p api.Program) bool {
	for _, class := range p.Classes {
		for _, m := range class.Methods {
			if !codeHolds(p, m) || !framesHold(p, m) {
				return false
			}
		}
	}
	return true
}

func codeHolds(p api.Program, m api.Method) bool {
	if len(m.Code) < 1 || len(m.Code) > api.MaxCode {
		return false
	}
	for _, ins := range m.Code {
		if !insHolds(p, m, ins) {
			return false
		}
	}
	return true
}

func insHolds(p api.Program, m api.Method, ins api.Ins) bool {
	switch ins.Op {
	case api.NUM:
		return ins.B == 0
	case api.LOAD, api.STORE:
		return within(ins.A, m.Locals) && ins.B == 0
	case api.GOTO, api.IFZERO, api.IFNULL:
		return within(ins.A, len(m.Code)) && ins.B == 0
	case api.NEW, api.CAST:
		return lineage.HasClass(p, ins.A) && ins.B == 0
	case api.GET, api.PUT:
		return lineage.HasClass(p, ins.A) && within(ins.B, lineage.CountFields(p, ins.A))
	case api.CALL:
		return lineage.HasClass(p, ins.A) && hasMethod(p, ins.A, ins.B)
	case api.ADD, api.SUB, api.MUL, api.DIV, api.RET, api.POP, api.DUP, api.NULL, api.PRINT, api.SWAP:
		return ins.A == 0 && ins.B == 0
	}
	return false
}

func hasMethod(p api.Program, class int, slot int) bool {
	_, found := lineage.FindMethod(p, class, slot)
	return found
}

// framesHold needs no bound on how many frames there are: they rise, and so
// are no more than the instructions.
func framesHold(p api.Program, m api.Method) bool {
	from := 0
	for _, f := range m.Frames {
		if f.At < from || f.At >= len(m.Code) || !frameHolds(p, m, f) {
			return false
		}
		from = f.At + 1
	}
	return true
}

func frameHolds(p api.Program, m api.Method, f api.Frame) bool {
	return len(f.Locals) == m.Locals &&
		len(f.Stack) <= m.Stack &&
		mayStand(p, f.Locals) &&
		mayStand(p, f.Stack)
}

// mayStand tells whether all these types may be told in a frame.
func mayStand(p api.Program, types []api.Type) bool {
	for _, t := range types {
		if t != api.Null && t != api.Top && !isDeclared(p, t) {
			return false
		}
	}
	return true
}
