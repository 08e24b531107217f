// Package lineage: what a class has of its own and of its ancestors.
//
// Its functions walk up from a class to class 0. They ask for a program whose
// Supers hold, since only then does that walk end.
package lineage

import "assay/api"

// HasClass tells whether the program has a class of this number.
func HasClass(p api.Program, class int) bool {
	return 0 <= class && class < len(p.Classes)
}

// Descends tells whether a class is another one, or below it.
func Descends(p api.Program, class int, other int) bool {
	for c := class; c >= 0; c = p.Classes[c].Super {
		if c == other {
			return true
		}
	}
	return false
}

// Fields is the types of a class's fields, its ancestors' first.
func Fields(p api.Program, class int) []api.Type {
	if class < 0 {
		return nil
	}
	return append(Fields(p, p.Classes[class].Super), p.Classes[class].Fields...)
}

// CountFields is how many fields a class has, its ancestors' included.
func CountFields(p api.Program, class int) int {
	count := 0
	for c := class; c >= 0; c = p.Classes[c].Super {
		count += len(p.Classes[c].Fields)
	}
	return count
}

// OwnMethod is a class's own method of this number, and whether there is one.
func OwnMethod(p api.Program, class int, number int) (api.Method, bool) {
	if !HasClass(p, class) || number < 0 || number >= len(p.Classes[class].Methods) {
		return api.Method{}, false
	}
	return p.Classes[class].Methods[number], true
}

// FindMethod is the method of a class and a slot, and whether there is one.
func FindMethod(p api.Program, class int, slot int) (api.Method, bool) {
	for c := class; c >= 0; c = p.Classes[c].Super {
		for _, m := range p.Classes[c].Methods {
			if m.Slot == slot {
				return m, true
			}
		}
	}
	return api.Method{}, false
}
