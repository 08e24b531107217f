package assay_test

import (
	"encoding/binary"
	"math"
	"slices"
	"testing"

	"assay/api"
	"assay/assay"
)

// ins is instructions, three numbers each.
func ins(numbers ...int) []api.Ins {
	var code []api.Ins
	for k := 0; k+2 < len(numbers); k += 3 {
		code = append(code, api.Ins{Op: numbers[k], A: numbers[k+1], B: numbers[k+2]})
	}
	return code
}

func ofClass(c int) api.Type { return api.First + api.Type(c) }

// method is one that holds, but for what it is given.
func method(slot int, ret api.Type, args ...api.Type) api.Method {
	return api.Method{Slot: slot, Args: args, Ret: ret, Locals: len(args) + 1, Stack: 1, Code: ins(api.RET, 0, 0)}
}

// full is a program, in new memory each time, that stands at all its bounds:
// six classes, eight fields (class 2), six methods (class 0), three Args,
// eight locals, a stack of eight, forty instructions and forty frames.
func full() api.Program {
	int0, six := api.Int, ofClass(5)
	root := []api.Method{method(0, int0), method(1, ofClass(0), int0), method(2, six, six, int0, ofClass(1)), method(3, int0), method(4, int0), method(5, int0, int0, int0)}
	root[2].Locals, root[2].Stack = api.MaxLocals, api.MaxStack
	root[2].Code = everyIns()
	for at := range root[2].Code {
		root[2].Frames = append(root[2].Frames, api.Frame{At: at, Locals: []api.Type{0, 1, 2, 3, 4, 5, 6, 8}, Stack: []api.Type{8, 7, 6, 5, 4, 2, 1, 0}[:at%9]})
	}
	lower := []api.Method{method(2, six, six, int0, ofClass(1)), method(1, ofClass(0), int0)}
	lower[1].Frames = []api.Frame{{Locals: []api.Type{3, 0}}}
	return copied(api.Program{Classes: []api.Class{
		{Super: -1, Fields: []api.Type{int0, six}, Methods: root},
		{Super: 0, Fields: []api.Type{ofClass(0), ofClass(1), ofClass(2)}, Methods: lower[:1]},
		{Super: 1, Fields: []api.Type{int0, int0, six}, Methods: lower[1:]},
		{Super: 0},
		{Super: 3, Methods: []api.Method{method(1, ofClass(0), int0)}},
		{Super: 4, Fields: []api.Type{ofClass(4)}},
	}})
}

// everyIns is forty instructions, each Op among them, at its greatest numbers.
func everyIns() []api.Ins {
	code := ins(
		api.NUM, math.MinInt, 0, api.NUM, math.MaxInt, 0, api.NUM, -1, 0, api.LOAD, 7, 0, api.STORE, 7, 0,
		api.ADD, 0, 0, api.SUB, 0, 0, api.MUL, 0, 0, api.DIV, 0, 0, api.GOTO, 39, 0, api.IFZERO, 39, 0, api.IFNULL, 39, 0,
		api.NEW, 5, 0, api.GET, 2, 7, api.GET, 1, 4, api.PUT, 2, 0, api.PUT, 5, 2, api.CALL, 5, 5, api.CALL, 2, 0,
		api.RET, 0, 0, api.POP, 0, 0, api.DUP, 0, 0, api.NULL, 0, 0, api.CAST, 5, 0, api.PRINT, 0, 0, api.SWAP, 0, 0)
	for len(code) < api.MaxCode {
		code = append(code, api.Ins{Op: api.RET})
	}
	return code
}

// copied is the program in memory of its own, no two of its lists in one.
func copied(p api.Program) api.Program {
	p.Classes = append([]api.Class(nil), p.Classes...)
	for c := range p.Classes {
		class := &p.Classes[c]
		class.Fields = append([]api.Type(nil), class.Fields...)
		class.Methods = append([]api.Method(nil), class.Methods...)
		for k := range class.Methods {
			m := &class.Methods[k]
			m.Args = append([]api.Type(nil), m.Args...)
			m.Code = append([]api.Ins(nil), m.Code...)
			m.Frames = append([]api.Frame(nil), m.Frames...)
			for f := range m.Frames {
				m.Frames[f].Locals = append([]api.Type(nil), m.Frames[f].Locals...)
				m.Frames[f].Stack = append([]api.Type(nil), m.Frames[f].Stack...)
			}
		}
	}
	return p
}

// numbers is what the document says is written of a program, in its order,
// whether the program holds or not.
func numbers(p api.Program) []int {
	n := []int{len(p.Classes)}
	types := func(l []api.Type) {
		for _, t := range l {
			n = append(n, int(t))
		}
	}
	for _, c := range p.Classes {
		n = append(n, c.Super, len(c.Fields))
		types(c.Fields)
		n = append(n, len(c.Methods))
		for _, m := range c.Methods {
			n = append(n, m.Slot, len(m.Args))
			types(m.Args)
			n = append(n, int(m.Ret), m.Locals, m.Stack, len(m.Code))
			for _, i := range m.Code {
				n = append(n, i.Op, i.A, i.B)
			}
			n = append(n, len(m.Frames))
			for _, f := range m.Frames {
				n = append(n, f.At)
				types(f.Locals)
				n = append(n, len(f.Stack))
				types(f.Stack)
			}
		}
	}
	return n
}

// spell is numbers as bytes. The library's varints are the document's.
func spell(numbers ...int) string {
	var b []byte
	for _, n := range numbers {
		b = binary.AppendVarint(b, int64(n))
	}
	return string(b)
}

// answers asks all calls of one program, and holds them against each other:
// Form's error is want, and beside an error stands nothing.
func answers(t *testing.T, name string, p api.Program, want api.Errno) {
	t.Helper()
	if e := assay.Form(p); e != want {
		t.Errorf("%s: Form: %d, want %d", name, e, want)
		return
	}
	text, e := assay.Encode(p)
	if e != want || want != api.OK && text != "" {
		t.Errorf("%s: Encode: %q, %d, want %d", name, text, e, want)
	}
	written := spell(numbers(p)...)
	goTogether(t, name, p, want)
	if want == api.OK {
		if text != written {
			t.Errorf("%s: Encode: % x, want % x", name, text, written)
		}
		readsAs(t, name, text, p)
		return
	}
	if framesAsLong(p) {
		refused(t, name, written)
	} else {
		tells(t, written)
	}
}

// runTogether asks Run of a program to which Form says this, one slot a class:
// it says the same, or, of a program that holds, what the words say.
func runTogether(t *testing.T, name string, p api.Program, formed api.Errno) {
	t.Helper()
	for c := range api.MaxClasses {
		slot := c
		if formed != api.OK {
			refusesRun(t, name, p, c, slot, nil, 9, formed)
			continue
		}
		if c >= len(p.Classes) || !slices.Contains(slotsOf(p, c), slot) {
			refusesRun(t, name, p, c, slot, nil, 9, api.ErrArg)
			continue
		}
		types := (&plainly{p: p}).method(c, slot).Args
		if slices.ContainsFunc(types, func(t api.Type) bool { return t != api.Int }) {
			refusesRun(t, name, p, c, slot, make([]int, len(types)), 9, api.ErrArg)
			continue
		}
		runAs(t, p, c, slot, make([]int, len(types)), 9)
	}
}

// goTogether asks Infer, Certify, Check and Run of a program to which Form says this:
// they say the same, or, of a program that holds, go together (P8).
func goTogether(t *testing.T, name string, p api.Program, formed api.Errno) {
	t.Helper()
	sound := true
	for c, class := range p.Classes[:min(len(p.Classes), api.MaxClasses)] {
		for k := range class.Methods[:min(len(class.Methods), api.MaxMethods)] {
			frames, e := assay.Infer(p, c, k)
			checked := assay.Check(p, c, k)
			sound = sound && e == api.OK
			if formed != api.OK && (e != formed || checked != formed) {
				t.Errorf("%s: Infer(%d, %d): %d, Check: %d, want %d", name, c, k, e, checked, formed)
			}
			if formed == api.OK && e != api.OK && (e != api.ErrCheck || checked != api.ErrCheck) {
				t.Errorf("%s: Infer(%d, %d): %d, Check: %d", name, c, k, e, checked)
			}
			if (e == api.OK) != (len(frames) > 0) {
				t.Errorf("%s: Infer(%d, %d): %v, %d", name, c, k, frames, e)
			}
		}
	}
	runTogether(t, name, p, formed)
	want := formed
	if formed == api.OK && !sound {
		want = api.ErrCheck
	}
	q, e := assay.Certify(p)
	if e != want || len(q.Classes) > 0 != (want == api.OK) {
		t.Errorf("%s: Certify: %v, %d, want %d", name, numbers(q), e, want)
	}
}

// framesAsLong tells whether all frames have as many locals as their methods.
// How many is not written: if they have not, the numbers of one program may be
// those of another one.
func framesAsLong(p api.Program) bool {
	for _, c := range p.Classes {
		for _, m := range c.Methods {
			for _, f := range m.Frames {
				if len(f.Locals) != m.Locals {
					return false
				}
			}
		}
	}
	return true
}

// tells asks Decode for an answer: bytes that Encode writes again, or ErrBytes.
func tells(t *testing.T, text string) {
	t.Helper()
	p, e := assay.Decode(text)
	switch e {
	case api.OK:
		if back, e := assay.Encode(p); back != text || e != api.OK {
			t.Errorf("Decode(% x): %v, written as % x, %d", text, numbers(p), back, e)
		}
	case api.ErrBytes:
		if len(p.Classes) != 0 {
			t.Errorf("Decode(% x): ErrBytes and %v", text, numbers(p))
		}
	default:
		t.Errorf("Decode(% x): %d", text, e)
	}
}

// readsAs asks Decode for the program that was written.
func readsAs(t *testing.T, name string, text string, want api.Program) {
	t.Helper()
	p, e := assay.Decode(text)
	if e != api.OK || !same(p, want) {
		t.Errorf("%s: Decode: %v, %d, want %v", name, numbers(p), e, numbers(want))
	}
}

// refused asks Decode for ErrBytes, and nothing beside it.
func refused(t *testing.T, name string, text string) {
	t.Helper()
	p, e := assay.Decode(text)
	if e != api.ErrBytes || len(p.Classes) != 0 {
		t.Errorf("%s: Decode: %v, %d, want ErrBytes", name, numbers(p), e)
	}
}
