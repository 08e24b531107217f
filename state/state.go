// Package state: what is known to stand in the locals and on the stack.
package state

import (
	"assay/api"
	"assay/kinds"
)

// State is types: those of the locals, and those on the stack. It is a value:
// a copy of it shares nothing with it.
//
// Locals that a method does not have are Top in each state, so that nobody
// needs to ask how many it has to hold two states against each other.
type State struct {
	locals [api.MaxLocals]api.Type
	stack  [api.MaxStack]api.Type
	height int
}

func blank() State {
	var s State
	for k := range s.locals {
		s.locals[k] = api.Top
	}
	return s
}

// Begin is the state at the beginning of a method of a class.
func Begin(class int, m api.Method) State {
	s := blank()
	s.locals[0] = kinds.Of(class)
	copy(s.locals[1:], m.Args)
	return s
}

// Told is the state that a frame tells.
func Told(f api.Frame) State {
	s := blank()
	copy(s.locals[:], f.Locals)
	s.height = copy(s.stack[:], f.Stack)
	return s
}

// Frame tells the state of an instruction of a method of so many locals.
func (s State) Frame(at int, locals int) api.Frame {
	return api.Frame{
		At:     at,
		Locals: append([]api.Type(nil), s.locals[:locals]...),
		Stack:  append([]api.Type(nil), s.stack[:s.height]...),
	}
}

// Below tells whether s is below other.
func (s State) Below(p api.Program, other State) bool {
	if s.height != other.height {
		return false
	}
	for k, t := range s.locals {
		if !kinds.Below(p, t, other.locals[k]) {
			return false
		}
	}
	for k, t := range s.stack[:s.height] {
		if !kinds.Below(p, t, other.stack[k]) {
			return false
		}
	}
	return true
}

// Join is the least state of which both are below. There is none, and it tells
// so, if their stacks are not as long.
func (s State) Join(p api.Program, other State) (State, bool) {
	if s.height != other.height {
		return State{}, false
	}
	for k, t := range other.locals {
		s.locals[k] = kinds.Join(p, s.locals[k], t)
	}
	for k, t := range other.stack[:s.height] {
		s.stack[k] = kinds.Join(p, s.stack[k], t)
	}
	return s, true
}

// Height is how many types stand on the stack.
func (s State) Height() int {
	return s.height
}

// Local is the type of a local.
func (s State) Local(local int) api.Type {
	return s.locals[local]
}

// SetLocal makes t the type of a local.
func (s *State) SetLocal(local int, t api.Type) {
	s.locals[local] = t
}

// Push puts t on the stack, which must have room.
func (s *State) Push(t api.Type) {
	s.stack[s.height] = t
	s.height++
}

// Pop takes the top of the stack, which must not be empty.
func (s *State) Pop() api.Type {
	s.height--
	return s.stack[s.height]
}
