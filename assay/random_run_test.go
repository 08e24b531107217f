package assay_test

import (
	"math"
	"math/rand"
	"slices"
	"testing"

	"assay/api"
	"assay/assay"
)

// declared is a random declared type of a program of so many classes.
func (r maker) declared(classes int) api.Type {
	if r.Intn(2) == 0 {
		return api.Int
	}
	return ofClass(r.Intn(classes))
}

// program is a random program, whose methods are sound. The first method of
// class 0 takes numbers alone.
func (r maker) program() api.Program {
	p := api.Program{Classes: make([]api.Class, 1+r.Intn(api.MaxClasses))}
	heads := make([]map[int]api.Method, len(p.Classes))
	for c := range p.Classes {
		p.Classes[c].Super = -1
		heads[c] = map[int]api.Method{}
		if c > 0 {
			p.Classes[c].Super = r.Intn(c)
			for slot, m := range heads[p.Classes[c].Super] {
				heads[c][slot] = m
			}
		}
		for range r.Intn(3) {
			if c < 4 { // more might be too many
				p.Classes[c].Fields = append(p.Classes[c].Fields, r.declared(len(p.Classes)))
			}
		}
		for slot := range api.MaxSlots {
			if r.Intn(2) == 0 && !(c == 0 && slot == 0) {
				continue
			}
			m, inherited := heads[c][slot]
			if !inherited {
				m = r.head(slot, len(p.Classes))
			}
			m.Locals = 1 + len(m.Args) + r.Intn(3)
			m.Stack = 1 + r.Intn(5)
			m.Code = make([]api.Ins, 2+r.Intn(20))
			heads[c][slot] = m
			p.Classes[c].Methods = append(p.Classes[c].Methods, m)
		}
	}
	for c, class := range p.Classes {
		for k := range class.Methods {
			r.soundCode(p, c, k)
		}
	}
	return p
}

// soundCode writes the code of a method until it is sound.
func (r maker) soundCode(p api.Program, class, number int) {
	m := p.Classes[class].Methods[number]
	for range 20 {
		r.code(p, class, m, func() api.Ins { return r.insOf(p, m) })
		if _, e := assay.Infer(p, class, number); e == api.OK {
			return
		}
	}
	p.Classes[class].Methods[number].Code = []api.Ins{pushing(m.Ret), {Op: api.RET}}
}

func (r maker) head(slot, classes int) api.Method {
	m := api.Method{Slot: slot, Ret: r.declared(classes)}
	for range r.Intn(4) {
		t := r.declared(classes)
		if slot == 0 {
			t = api.Int
		}
		m.Args = append(m.Args, t)
	}
	return m
}

// insOf is a random instruction that may stand in a method of a program.
func (r maker) insOf(p api.Program, m api.Method) api.Ins {
	i := api.Ins{Op: r.Intn(21)}
	if r.Intn(3) == 0 {
		i.Op = []int{api.CALL, api.GET, api.PUT, api.NEW, api.PRINT, api.CAST, api.IFZERO}[r.Intn(7)]
	}
	if (i.Op == api.GOTO || i.Op == api.RET) && r.Intn(4) > 0 {
		i.Op = api.LOAD
	}
	class := r.Intn(len(p.Classes))
	switch i.Op {
	case api.NUM:
		i.A = []int{-2, -1, 0, 0, 1, 2, 3, 1 << 40, math.MaxInt, math.MinInt}[r.Intn(10)]
	case api.LOAD, api.STORE:
		i.A = r.Intn(m.Locals)
	case api.GOTO, api.IFZERO, api.IFNULL:
		i.A = r.Intn(len(m.Code))
	case api.NEW, api.CAST:
		i.A = class
	case api.GET, api.PUT:
		fields := (&plainly{p: p}).fields(class)
		if len(fields) == 0 {
			return api.Ins{Op: api.LOAD}
		}
		i.A, i.B = class, r.Intn(len(fields))
	case api.CALL:
		slots := slotsOf(p, class)
		i.A, i.B = class, slots[r.Intn(len(slots))]
	}
	return i
}

// slotsOf is the slots of which a class has a method.
func slotsOf(p api.Program, class int) []int {
	var slots []int
	for c := class; c >= 0; c = p.Classes[c].Super {
		for _, m := range p.Classes[c].Methods {
			slots = append(slots, m.Slot)
		}
	}
	return slots
}

// allPass tells whether all methods of a program pass, by the document's words.
func allPass(p api.Program) bool {
	for c, class := range p.Classes {
		for _, m := range class.Methods {
			if !passes(p, c, m) {
				return false
			}
		}
	}
	return true
}

// runAs runs a program on both machines, and holds what they say against the
// document's words. It tells how the run ended.
func runAs(t *testing.T, p api.Program, class, slot int, args []int, fuel int) api.Outcome {
	t.Helper()
	want := plainRun(p, class, slot, args, fuel)
	got, e := assay.Run(p, class, slot, args, fuel, true)
	if e != api.OK || !sameOutcome(got, want) {
		t.Errorf("%v, class %d, slot %d, %v, fuel %d: %v, %d, want %v", numbers(p), class, slot, args, fuel, got, e, want)
	}
	pass := allPass(p)
	got, e = assay.Run(p, class, slot, args, fuel, false)
	if pass && (e != api.OK || !sameOutcome(got, want)) {
		t.Errorf("%v, class %d, slot %d, %v, fuel %d, not asked: %v, %d, want %v", numbers(p), class, slot, args, fuel, got, e, want)
	}
	if !pass && (e != api.ErrCheck || !isNothing(got)) {
		t.Errorf("%v does not pass: %v, %d", numbers(p), got, e)
	}
	if pass && want.Kind == api.Fault {
		t.Errorf("%v passes, and ends with Fault", numbers(p))
	}
	return want
}

// start picks what is run: a class, a slot of numbers, and these.
func (r maker) start(p api.Program) (class, slot int, args []int) {
	class = r.Intn(len(p.Classes))
	slots := slotsOf(p, class)
	slot = slots[r.Intn(len(slots))]
	m := (&plainly{p: p}).method(class, slot)
	if slices.ContainsFunc(m.Args, func(t api.Type) bool { return t != api.Int }) {
		slot = 0
		m = (&plainly{p: p}).method(class, slot)
	}
	for range m.Args {
		args = append(args, r.Intn(6)-1)
	}
	return class, slot, args
}

// spoiled is the program with some other instructions, so that it may not pass.
func (r maker) spoiled(p api.Program) api.Program {
	p = copied(p)
	for range 1 + r.Intn(3) {
		methods := p.Classes[r.Intn(len(p.Classes))].Methods
		if len(methods) > 0 {
			m := methods[r.Intn(len(methods))]
			m.Code[r.Intn(len(m.Code))] = r.insOf(p, m)
		}
	}
	return p
}

// loosened is a certified program with other frames with which it passes, too:
// more of them than it needs, that tell less than is known.
func (r maker) loosened(p api.Program) api.Program {
	p = copied(p)
	for c, class := range p.Classes {
		for k := range class.Methods {
			m := &class.Methods[k]
			was := m.Frames
			m.Frames, _ = assay.Infer(p, c, k)
			for f := range m.Frames {
				for l := range m.Frames[f].Locals {
					if r.Intn(4) == 0 {
						m.Frames[f].Locals[l] = api.Top
					}
				}
			}
			if assay.Check(p, c, k) != api.OK {
				m.Frames = was
			}
		}
	}
	return p
}

// P7, P9: of random programs both machines say what the words say. Where all
// methods pass, both say the same, and none ends with Fault.
func TestRandomRuns(t *testing.T) {
	r := maker{rand.New(rand.NewSource(9))}
	var passing, spoiled [api.Room + 1]int
	for range 1200 {
		p, e := assay.Certify(r.program())
		if e != api.OK {
			t.Fatalf("%v: Certify: %d", numbers(p), e)
		}
		for range 3 {
			class, slot, args := r.start(p)
			fuel := r.Intn(200)
			if r.Intn(3) == 0 {
				fuel = api.MaxFuel
			}
			passing[runAs(t, p, class, slot, args, fuel).Kind]++
			passing[runAs(t, r.loosened(p), class, slot, args, fuel).Kind]++
			spoiled[runAs(t, r.spoiled(p), class, slot, args, fuel).Kind]++
		}
	}
	for kind := api.Done; kind <= api.Room; kind++ {
		if passing[kind] < 5 && kind != api.Fault || spoiled[kind] < 5 {
			t.Errorf("how the runs ended: %v, %v", passing, spoiled)
		}
	}
}
