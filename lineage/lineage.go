// Package lineage: what a class has of its own and of its ancestors.
//
// Its functions walk up from a class to class 0. They ask for a program whose
// Supers hold, since only then does that walk end.
package lineage

import "assay/api"

// HasClass tells whether the program has a class of this number.
func HasClass(p api.Program, class int) bool {
	return 0 <= class && class < len(p.Classes)
}

// CountFields is how many fields a class has, its ancestors' included.
func CountFields(p api.Program, class int) int {
	count := 0
	for c := class; c >= 0; c = p.Classes[c].Super {
		count += len(p.Classes[c].Fields)
	}
	return count
}

// FindMethod is the method of a class and a slot, and whether there is one.
func FindMethod(p api.Program, class int, slot int) (api.Method, bool) {
	for c := class; c >= 0; c = p.Classes[c].Super {
		for _, m := range p.Classes[c].Methods {
			if m.Slot == slot {
				return m, true
			}
		}
	}
	return api.Method{}, false
}
