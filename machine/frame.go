package machine

import "assay/api"

// frame is a running method.
type frame struct {
	method api.Method
	at     int // the instruction at hand
	locals []value
	stack  []value
}

func newFrame(m api.Method, this value, args []value) *frame {
	f := &frame{method: m}
	f.locals = append(f.locals, this)
	f.locals = append(f.locals, args...)
	for len(f.locals) < m.Locals {
		f.locals = append(f.locals, nothing())
	}
	return f
}

func (f *frame) push(v value) {
	f.stack = append(f.stack, v)
}

func (f *frame) top() value {
	return f.stack[len(f.stack)-1]
}

func (f *frame) pop() value {
	return f.take(1)[0]
}

// take takes so many values off the stack, and tells them, the top one last.
// They are good until the next one is pushed.
func (f *frame) take(count int) []value {
	rest := len(f.stack) - count
	taken := f.stack[rest:]
	f.stack = f.stack[:rest]
	return taken
}

// move does an instruction that touches nothing beside the frame's own values.
func (f *frame) move(ins api.Ins) {
	switch ins.Op {
	case api.NUM:
		f.push(number(ins.A))
	case api.NULL:
		f.push(null())
	case api.LOAD:
		f.push(f.locals[ins.A])
	case api.STORE:
		f.locals[ins.A] = f.pop()
	case api.POP:
		f.pop()
	case api.DUP:
		x := f.pop()
		f.push(x)
		f.push(x)
	case api.SWAP:
		y, x := f.pop(), f.pop()
		f.push(y)
		f.push(x)
	case api.ADD, api.SUB, api.MUL, api.DIV:
		y, x := f.pop().number, f.pop().number
		f.push(number(compute(ins.Op, x, y)))
	}
}

func compute(op int, x int, y int) int {
	switch op {
	case api.ADD:
		return x + y
	case api.SUB:
		return x - y
	case api.MUL:
		return x * y
	}
	return x / y
}
