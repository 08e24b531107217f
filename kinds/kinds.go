// Package kinds: which types are below which.
//
// Its functions ask for a program that holds, and types that it may have.
package kinds

import (
	"assay/api"
	"assay/lineage"
)

// Of is the type of the objects of a class.
func Of(class int) api.Type {
	return api.First + api.Type(class)
}

func isClass(t api.Type) bool {
	return t >= api.First
}

func classOf(t api.Type) int {
	return int(t - api.First)
}

// MayBeObject tells whether t is Null or a class's.
func MayBeObject(t api.Type) bool {
	return t == api.Null || isClass(t)
}

// Below tells whether t is below other.
func Below(p api.Program, t api.Type, other api.Type) bool {
	if t == other || other == api.Top {
		return true
	}
	if !isClass(other) {
		return false
	}
	return t == api.Null || isClass(t) && lineage.Descends(p, classOf(t), classOf(other))
}

// Join is the least type of which both are below.
func Join(p api.Program, a api.Type, b api.Type) api.Type {
	if Below(p, a, b) {
		return b
	}
	if isClass(a) {
		for c := classOf(a); c >= 0; c = p.Classes[c].Super {
			if Below(p, b, Of(c)) {
				return Of(c)
			}
		}
	}
	return api.Top
}
