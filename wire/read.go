package wire

import (
	"assay/api"
	"assay/refusal"
)

// Read is the program that the bytes tell; it gives up where they are of none.
// It looks no further than it must to read on: that the program holds is not
// said.
func Read(bytes string) api.Program {
	r := reader{rest: bytes}
	p := api.Program{Classes: list(r.count(api.MaxClasses), r.class)}
	if r.rest != "" {
		giveUp()
	}
	return p
}

func giveUp() {
	refusal.GiveUp(api.ErrBytes)
}

type reader struct {
	rest string
}

// list reads so many things into memory of their own; an empty list is nil.
func list[T any](count int, read func() T) []T {
	if count == 0 {
		return nil
	}
	things := make([]T, count)
	for k := range things {
		things[k] = read()
	}
	return things
}

func (r *reader) next() byte {
	if r.rest == "" {
		giveUp()
	}
	b := r.rest[0]
	r.rest = r.rest[1:]
	return b
}

// lastShift is where the tenth byte of a number goes: one bit is left there.
const lastShift = 63

func (r *reader) number() int {
	folded := uint64(0)
	for shift := 0; ; shift += 7 {
		b := r.next()
		if shift == lastShift && b > 1 {
			giveUp()
		}
		folded |= uint64(b&127) << shift
		if b < 128 {
			// A last byte of 0 tells nothing: without it, it were shorter.
			if b == 0 && shift > 0 {
				giveUp()
			}
			return unfold(folded)
		}
	}
}

func unfold(folded uint64) int {
	half := int(folded >> 1)
	if folded&1 == 1 {
		return ^half
	}
	return half
}

// count reads a number from 0 to most. The bound stands here so that no bytes
// can ask for more memory than a program may take.
func (r *reader) count(most int) int {
	n := r.number()
	if n < 0 || n > most {
		giveUp()
	}
	return n
}

func (r *reader) kind() api.Type {
	return api.Type(r.number())
}

func (r *reader) class() api.Class {
	var c api.Class
	c.Super = r.number()
	c.Fields = list(r.count(api.MaxFields), r.kind)
	c.Methods = list(r.count(api.MaxMethods), r.method)
	return c
}

func (r *reader) method() api.Method {
	var m api.Method
	m.Slot = r.number()
	m.Args = list(r.count(api.MaxArgs), r.kind)
	m.Ret = r.kind()
	m.Locals = r.count(api.MaxLocals)
	m.Stack = r.count(api.MaxStack)
	m.Code = list(r.count(api.MaxCode), r.ins)
	m.Frames = list(r.count(api.MaxCode), func() api.Frame { return r.frame(m.Locals) })
	return m
}

func (r *reader) ins() api.Ins {
	var ins api.Ins
	ins.Op = r.number()
	ins.A = r.number()
	ins.B = r.number()
	return ins
}

func (r *reader) frame(locals int) api.Frame {
	var f api.Frame
	f.At = r.number()
	f.Locals = list(locals, r.kind)
	f.Stack = list(r.count(api.MaxStack), r.kind)
	return f
}
