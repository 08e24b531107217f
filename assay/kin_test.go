package assay_test

import (
	"slices"

	"assay/api"
)

// kin is a program of six classes: 1 and 2 below 0, 3 and 4 below 1, 5 below 3.
// Class 0 has an Int and an object of class 1, class 1 one of class 3, class 3
// an Int. The slot 0 of class 0 takes an Int and objects of the classes 1 and 3
// and gives one of class 1 (class 3 has it anew); 1 of class 1 gives an Int; 3
// of class 2 takes one of class 2 and gives an Int. The second method of class
// 1, in the slot 2, is the one given: it takes an Int and an object of class 3.
func kin(m api.Method) api.Program {
	m.Slot, m.Args = 2, []api.Type{api.Int, ofClass(3)}
	gives := func(slot int, code []api.Ins, ret api.Type, args ...api.Type) api.Method {
		g := method(slot, ret, args...)
		g.Code = code
		return g
	}
	null, zero := ins(api.NULL, 0, 0, api.RET, 0, 0), ins(api.NUM, 0, 0, api.RET, 0, 0)
	return copied(api.Program{Classes: []api.Class{
		{Super: -1, Fields: []api.Type{api.Int, ofClass(1)}, Methods: []api.Method{gives(0, null, ofClass(1), api.Int, ofClass(1), ofClass(3))}},
		{Super: 0, Fields: []api.Type{ofClass(3)}, Methods: []api.Method{gives(1, zero, api.Int), m}},
		{Super: 0, Methods: []api.Method{gives(3, zero, api.Int, ofClass(2))}},
		{Super: 1, Fields: []api.Type{api.Int}, Methods: []api.Method{gives(0, ins(api.LOAD, 0, 0, api.RET, 0, 0), ofClass(1), api.Int, ofClass(1), ofClass(3))}},
		{Super: 1},
		{Super: 3},
	}})
}

// Where the method given to kin stands.
const kinClass, kinMethod = 1, 1

// kinLocals is how many locals the methods of these tests have, and kinStart
// what stands in them at the beginning.
const kinLocals = 5

func kinStart() []api.Type {
	return []api.Type{ofClass(1), api.Int, ofClass(3), api.Top, api.Top}
}

// coder is a method for kin.
func coder(ret api.Type, stack int, code []api.Ins, frames ...api.Frame) api.Method {
	return api.Method{Ret: ret, Locals: kinLocals, Stack: stack, Code: code, Frames: frames}
}

// All types of kin.
const kinTypes = 9

// below tells, for each type of kin, all that are below it.
func below(t api.Type) []api.Type {
	return [kinTypes][]api.Type{
		api.Int:  {api.Int},
		api.Null: {api.Null},
		api.Top:  {0, 1, 2, 3, 4, 5, 6, 7, 8},
		3:        {api.Null, 3, 4, 5, 6, 7, 8},
		4:        {api.Null, 4, 6, 7, 8},
		5:        {api.Null, 5},
		6:        {api.Null, 6, 8},
		7:        {api.Null, 7},
		8:        {api.Null, 8},
	}[t]
}

func isBelow(t, other api.Type) bool { return slices.Contains(below(other), t) }

// joins is the least type of which both are below, for each two types of kin.
func joins(a, b api.Type) api.Type {
	return [kinTypes][kinTypes]api.Type{
		{0, 2, 2, 2, 2, 2, 2, 2, 2},
		{2, 1, 2, 3, 4, 5, 6, 7, 8},
		{2, 2, 2, 2, 2, 2, 2, 2, 2},
		{2, 3, 2, 3, 3, 3, 3, 3, 3},
		{2, 4, 2, 3, 4, 3, 4, 4, 4},
		{2, 5, 2, 3, 3, 5, 3, 3, 3},
		{2, 6, 2, 3, 4, 3, 6, 4, 6},
		{2, 7, 2, 3, 4, 3, 4, 7, 4},
		{2, 8, 2, 3, 4, 3, 6, 4, 8},
	}[a][b]
}

// pushing is an instruction that leaves this type, which is not Top.
func pushing(t api.Type) api.Ins {
	switch t {
	case api.Int:
		return api.Ins{Op: api.NUM, A: 9}
	case api.Null:
		return api.Ins{Op: api.NULL}
	}
	return api.Ins{Op: api.NEW, A: int(t - api.First)}
}

// replaced is a copy of the list with another type at one place.
func replaced(list []api.Type, k int, t api.Type) []api.Type {
	list = slices.Clone(list)
	list[k] = t
	return list
}
