package assay_test

import (
	"math/rand"
	"slices"
	"testing"

	"assay/api"
	"assay/assay"
)

// maker makes random methods for kin, many of which are sound.
type maker struct {
	*rand.Rand
}

// ins is a random instruction for a method of so many instructions.
func (r maker) ins(length int) api.Ins {
	op := r.Intn(21)
	if op >= api.ADD && op <= api.GOTO || op == api.RET {
		op = r.Intn(21) // less of what is all alike, or ends the way
	}
	if r.Intn(4) == 0 {
		op = []int{api.IFZERO, api.IFNULL, api.STORE}[r.Intn(3)]
	}
	switch op {
	case api.NUM:
		return api.Ins{Op: op, A: r.Intn(3)}
	case api.LOAD, api.STORE:
		return api.Ins{Op: op, A: r.Intn(kinLocals)}
	case api.GOTO, api.IFZERO, api.IFNULL:
		return api.Ins{Op: op, A: r.Intn(length)}
	case api.NEW, api.CAST:
		return api.Ins{Op: op, A: r.Intn(6)}
	case api.GET, api.PUT:
		class := r.Intn(6)
		return api.Ins{Op: op, A: class, B: r.Intn([]int{2, 3, 2, 4, 3, 4}[class])}
	case api.CALL:
		return [][]api.Ins{ins(op, 0, 0), ins(op, 1, 1), ins(op, 2, 3), ins(op, 3, 0), ins(op, 4, 1), ins(op, 5, 2)}[r.Intn(6)][0]
	}
	return api.Ins{Op: op}
}

// method is a random method for kin.
func (r maker) method() api.Method {
	m := coder([]api.Type{0, 3, 4, 6}[r.Intn(4)], 1+r.Intn(4), make([]api.Ins, 2+r.Intn(14)))
	p := kin(coder(m.Ret, 1, ins(api.RET, 0, 0)))
	m.Slot, m.Args = 2, []api.Type{api.Int, ofClass(3)}
	r.code(p, kinClass, m, func() api.Ins { return r.ins(len(m.Code)) })
	return m
}

// code writes a method's code: each instruction fits what stands there if one
// comes from the one ahead, or if it is come to by a jump, mostly.
func (r maker) code(p api.Program, class int, m api.Method, pick func() api.Ins) {
	first := beginning(class, m)
	s := first
	planned := map[int]typing{}
	for at := range m.Code {
		if come, ok := planned[at]; ok {
			s = come
		}
		planned[at] = s
		for try := range 40 {
			m.Code[at] = pick()
			// Without this most would run out.
			if try == 0 && at == len(m.Code)-2 {
				m.Code[at] = pushing(m.Ret)
			}
			if try == 0 && at == len(m.Code)-1 {
				m.Code[at] = api.Ins{Op: api.RET}
			}
			left, fits := after(p, m, m.Code[at], s)
			next, place := goesOn(m.Code, at)
			if !fits || next == len(m.Code) {
				continue
			}
			if come, ok := planned[place]; ok && len(come.stack) != len(left.stack) {
				continue
			}
			if come, ok := planned[next]; ok && len(come.stack) != len(left.stack) {
				continue
			}
			if place > at {
				planned[place] = left
			}
			s = left
			if next < 0 {
				s = first
			}
			break
		}
	}
}

// frame is a random one, for the most part near to one that is known.
func (r maker) frame(m api.Method, near api.Frame) api.Frame {
	f := api.Frame{At: near.At, Locals: slices.Clone(near.Locals), Stack: slices.Clone(near.Stack)}
	for range 1 + r.Intn(2) {
		switch r.Intn(4) {
		case 0, 1:
			f.Locals[r.Intn(len(f.Locals))] = api.Type(r.Intn(kinTypes))
		case 2:
			if len(f.Stack) > 0 {
				f.Stack[r.Intn(len(f.Stack))] = api.Type(r.Intn(kinTypes))
			}
		case 3:
			f.Locals[r.Intn(len(f.Locals))] = api.Top
		}
	}
	if r.Intn(20) == 0 && len(f.Stack) < m.Stack {
		f.Stack = append(f.Stack, api.Type(r.Intn(kinTypes)))
	}
	return f
}

// frames is random frames, for the most part near to those that let it pass.
func (r maker) frames(m api.Method, solved []api.Frame) []api.Frame {
	least := ofPlaces(m, solved)
	var frames []api.Frame
	for at := range m.Code {
		same := func(f api.Frame) bool { return f.At == at }
		place, state := slices.IndexFunc(least, same), slices.IndexFunc(solved, same)
		switch {
		case place >= 0 && r.Intn(40) > 0:
			frames = append(frames, least[place])
		case state >= 0 && r.Intn(6) == 0:
			frames = append(frames, solved[state])
		case state < 0 && r.Intn(6) == 0:
			frames = append(frames, r.frame(m, start(at)))
		}
	}
	for k := range frames {
		if r.Intn(1+2*len(frames)) == 0 {
			frames[k] = r.frame(m, frames[k])
		}
	}
	return frames
}

// P5, P6, P8: Infer, Certify and Check of random methods say what the words
// say; what passes is sound; what is sound passes with Certify's frames.
func TestRandomMethods(t *testing.T) {
	r := maker{rand.New(rand.NewSource(7))}
	var sound, passing, failing int
	for range 6000 {
		m := r.method()
		p := kin(m)
		m = p.Classes[kinClass].Methods[kinMethod]
		want := solution(p, kinClass, m)
		infers(t, "random", m, want...)
		if want == nil {
			if got, e := assay.Certify(p); e != api.ErrCheck || len(got.Classes) != 0 {
				t.Errorf("%v: Certify: %v, %d, want ErrCheck", numbers(p), numbers(got), e)
			}
		} else {
			sound++
			certified(t, "random", m, ofPlaces(m, want)...)
		}
		for range 4 {
			m.Frames = r.frames(m, want)
			if !passes(kin(m), kinClass, m) {
				failing++
				checks(t, "random", m, api.ErrCheck)
				continue
			}
			passing++
			checks(t, "random", m, api.OK)
			if want == nil {
				t.Errorf("%v passes, and is not sound", numbers(kin(m)))
			}
		}
	}
	if sound < 2000 || passing < 2000 || failing < 2000 {
		t.Errorf("of the random methods %d are sound, %d pass, %d do not", sound, passing, failing)
	}
}

// P8: with all the least solution as its frames, or with any part of it that
// has those of places, a method passes; without one of these it does not.
func TestPartsOfSolution(t *testing.T) {
	r := maker{rand.New(rand.NewSource(8))}
	for range 1500 {
		m := r.method()
		all, e := assay.Infer(kin(m), kinClass, kinMethod)
		if e != api.OK {
			continue
		}
		m.Frames = all
		checks(t, "the least solution", m, api.OK)
		needed := ofPlaces(m, all)
		m.Frames = nil
		for _, f := range all {
			isNeeded := slices.ContainsFunc(needed, func(n api.Frame) bool { return n.At == f.At })
			if isNeeded || r.Intn(2) == 0 {
				m.Frames = append(m.Frames, f)
			}
		}
		checks(t, "a part of it", m, api.OK)
		for k := range needed {
			m.Frames = slices.Concat(needed[:k], needed[k+1:])
			checks(t, "without a place", m, api.ErrCheck)
		}
	}
}
