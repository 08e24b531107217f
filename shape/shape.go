// Package shape: whether a program is one, as the document's words say.
package shape

import "assay/api"

// Check tells what is wrong with a program: ErrClass, ErrCode, or OK.
//
// Classes go ahead of all code, since code is looked at by the classes'
// fields and slots.
func Check(p api.Program) api.Errno {
	if !classesHold(p) {
		return api.ErrClass
	}
	if !allCodeHolds(p) {
		return api.ErrCode
	}
	return api.OK
}

// within tells whether n is a number from 0 to below end.
func within(n int, end int) bool {
	return 0 <= n && n < end
}

// isDeclared tells whether t is Int or the type of a class of the program.
func isDeclared(p api.Program, t api.Type) bool {
	return t == api.Int || t >= api.First && int(t-api.First) < len(p.Classes)
}

func areDeclared(p api.Program, types []api.Type) bool {
	for _, t := range types {
		if !isDeclared(p, t) {
			return false
		}
	}
	return true
}
