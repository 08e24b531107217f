package shape

import (
	"slices"

	"assay/api"
	"assay/lineage"
)

func classesHold(p api.Program) bool {
	if len(p.Classes) < 1 || len(p.Classes) > api.MaxClasses {
		return false
	}
	// All Supers first: what follows walks up along them.
	if !supersHold(p) {
		return false
	}
	for c := range p.Classes {
		if !fieldsHold(p, c) || !methodsHold(p, c) {
			return false
		}
	}
	return true
}

func supersHold(p api.Program) bool {
	for c, class := range p.Classes {
		if c == 0 && class.Super != -1 {
			return false
		}
		if c > 0 && !within(class.Super, c) {
			return false
		}
	}
	return true
}

func fieldsHold(p api.Program, c int) bool {
	return lineage.CountFields(p, c) <= api.MaxFields && areDeclared(p, p.Classes[c].Fields)
}

func methodsHold(p api.Program, c int) bool {
	methods := p.Classes[c].Methods
	if len(methods) > api.MaxMethods {
		return false
	}
	for k, m := range methods {
		if !headHolds(p, m) || hasSlot(methods[:k], m.Slot) || !overrides(p, c, m) {
			return false
		}
	}
	return true
}

// headHolds looks at what a method is beside its Code and Frames.
func headHolds(p api.Program, m api.Method) bool {
	return within(m.Slot, api.MaxSlots) &&
		len(m.Args) <= api.MaxArgs &&
		areDeclared(p, m.Args) &&
		isDeclared(p, m.Ret) &&
		len(m.Args) < m.Locals && m.Locals <= api.MaxLocals &&
		within(m.Stack, api.MaxStack+1)
}

func hasSlot(methods []api.Method, slot int) bool {
	for _, m := range methods {
		if m.Slot == slot {
			return true
		}
	}
	return false
}

// overrides tells whether m has the Args and Ret of the method, if any, that
// its class would inherit in its slot.
func overrides(p api.Program, c int, m api.Method) bool {
	inherited, found := lineage.FindMethod(p, p.Classes[c].Super, m.Slot)
	return !found || slices.Equal(inherited.Args, m.Args) && inherited.Ret == m.Ret
}
