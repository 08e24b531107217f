// Package fit: whether an instruction fits a state, and what it leaves.
package fit

import (
	"assay/api"
	"assay/flow"
	"assay/kinds"
	"assay/lineage"
	"assay/refusal"
	"assay/state"
)

// Next is the state that the instruction of a method at a place leaves. It
// gives up, if that does not fit the state s, or goes on behind the end.
func Next(p api.Program, m api.Method, at int, s state.State) state.State {
	l := look{p: p, m: m, s: s}
	l.do(m.Code[at])
	for next := range flow.Onward(m.Code, at) {
		if next == len(m.Code) {
			giveUp()
		}
	}
	return l.s
}

func giveUp() {
	refusal.GiveUp(api.ErrCheck)
}

// look is at one instruction; s becomes what that leaves.
type look struct {
	p api.Program
	m api.Method
	s state.State
}

func (l *look) do(ins api.Ins) {
	switch ins.Op {
	case api.NUM:
		l.leave(api.Int)
	case api.LOAD:
		l.leave(known(l.s.Local(ins.A)))
	case api.STORE:
		l.s.SetLocal(ins.A, known(l.take()))
	case api.ADD, api.SUB, api.MUL, api.DIV:
		l.want(api.Int)
		l.want(api.Int)
		l.leave(api.Int)
	case api.IFZERO, api.PRINT:
		l.want(api.Int)
	case api.NEW:
		l.leave(kinds.Of(ins.A))
	case api.GET:
		l.want(kinds.Of(ins.A))
		l.leave(lineage.Fields(l.p, ins.A)[ins.B])
	case api.PUT:
		l.want(lineage.Fields(l.p, ins.A)[ins.B])
		l.want(kinds.Of(ins.A))
	case api.CALL:
		l.call(ins)
	case api.RET:
		l.want(l.m.Ret)
	case api.POP:
		l.take()
	case api.DUP:
		x := l.take()
		l.leave(x)
		l.leave(x)
	case api.NULL:
		l.leave(api.Null)
	case api.CAST:
		l.wantObject()
		l.leave(kinds.Of(ins.A))
	case api.IFNULL:
		l.wantObject()
	case api.SWAP:
		y, x := l.take(), l.take()
		l.leave(y)
		l.leave(x)
	}
}

func (l *look) call(ins api.Ins) {
	called, _ := lineage.FindMethod(l.p, ins.A, ins.B)
	for k := range called.Args {
		l.want(called.Args[len(called.Args)-1-k])
	}
	l.want(kinds.Of(ins.A))
	l.leave(called.Ret)
}

func (l *look) take() api.Type {
	if l.s.Height() == 0 {
		giveUp()
	}
	return l.s.Pop()
}

func (l *look) want(t api.Type) {
	if !kinds.Below(l.p, l.take(), t) {
		giveUp()
	}
}

func (l *look) wantObject() {
	if !kinds.MayBeObject(l.take()) {
		giveUp()
	}
}

func (l *look) leave(t api.Type) {
	if l.s.Height() == l.m.Stack {
		giveUp()
	}
	l.s.Push(t)
}

// known is t, which must not be Top.
func known(t api.Type) api.Type {
	if t == api.Top {
		giveUp()
	}
	return t
}
