// Package wire: programs as bytes.
package wire

import "assay/api"

// Write is the bytes of a program that holds.
func Write(p api.Program) string {
	var w writer
	w.number(len(p.Classes))
	for _, c := range p.Classes {
		w.class(c)
	}
	return string(w.bytes)
}

type writer struct {
	bytes []byte
}

// number writes n, folded so that numbers near 0 on either side are short.
func (w *writer) number(n int) {
	folded := uint64(n) << 1
	if n < 0 {
		folded = ^folded
	}
	for folded >= 128 {
		w.bytes = append(w.bytes, byte(folded)|128)
		folded >>= 7
	}
	w.bytes = append(w.bytes, byte(folded))
}

// types writes types alone: not all lists of types have their length ahead.
func (w *writer) types(types []api.Type) {
	for _, t := range types {
		w.number(int(t))
	}
}

func (w *writer) class(c api.Class) {
	w.number(c.Super)
	w.number(len(c.Fields))
	w.types(c.Fields)
	w.number(len(c.Methods))
	for _, m := range c.Methods {
		w.method(m)
	}
}

func (w *writer) method(m api.Method) {
	w.number(m.Slot)
	w.number(len(m.Args))
	w.types(m.Args)
	w.number(int(m.Ret))
	w.number(m.Locals)
	w.number(m.Stack)
	w.number(len(m.Code))
	for _, ins := range m.Code {
		w.number(ins.Op)
		w.number(ins.A)
		w.number(ins.B)
	}
	w.number(len(m.Frames))
	for _, f := range m.Frames {
		w.frame(f)
	}
}

func (w *writer) frame(f api.Frame) {
	w.number(f.At)
	w.types(f.Locals)
	w.number(len(f.Stack))
	w.types(f.Stack)
}
