package assay_test

import (
	"fmt"
	"slices"

	"assay/api"
)

// This is what the document says of states, solutions and the pass, told once
// more in the plainest way, for programs that hold. Random methods are held
// against it.

type typing struct {
	locals, stack []api.Type
}

func (s typing) String() string { return fmt.Sprint(s.locals, s.stack) }

func under(p api.Program, t, other api.Type) bool {
	switch {
	case t == other || other == api.Top:
		return true
	case t == api.Null:
		return other >= api.First
	case t > api.First && other >= api.First:
		return under(p, ofClass(p.Classes[t-api.First].Super), other)
	}
	return false
}

func allUnder(p api.Program, l, other []api.Type) bool {
	return slices.EqualFunc(l, other, func(t, u api.Type) bool { return under(p, t, u) })
}

func stateUnder(p api.Program, s, other typing) bool {
	return allUnder(p, s.locals, other.locals) && allUnder(p, s.stack, other.stack)
}

// leastAbove tries all types: it is above both, and below all others that are.
func leastAbove(p api.Program, a, b api.Type) api.Type {
	var above []api.Type
	for t := range ofClass(len(p.Classes)) {
		if under(p, a, t) && under(p, b, t) {
			above = append(above, t)
		}
	}
	for _, t := range above {
		if !slices.ContainsFunc(above, func(u api.Type) bool { return !under(p, t, u) }) {
			return t
		}
	}
	panic("no least type")
}

// rule is what an instruction takes, the top last, and what it leaves. A
// negative type stands for: anything, but Top, Null or a class's.
const (
	anything  = api.Type(-1)
	known     = api.Type(-2)
	reference = api.Type(-3)
)

func rule(p api.Program, m api.Method, i api.Ins, s typing) (takes, leaves []api.Type) {
	l := func(t ...api.Type) []api.Type { return t }
	top := func(k int) api.Type {
		if k >= len(s.stack) {
			return api.Top
		}
		return s.stack[len(s.stack)-1-k]
	}
	var fields []api.Type
	if i.Op == api.GET || i.Op == api.PUT {
		for c := i.A; c >= 0; c = p.Classes[c].Super {
			fields = slices.Concat(p.Classes[c].Fields, fields)
		}
	}
	switch i.Op {
	case api.NUM:
		return nil, l(api.Int)
	case api.LOAD:
		return nil, l(s.locals[i.A])
	case api.STORE:
		return l(known), nil
	case api.ADD, api.SUB, api.MUL, api.DIV:
		return l(api.Int, api.Int), l(api.Int)
	case api.IFZERO, api.PRINT:
		return l(api.Int), nil
	case api.NEW:
		return nil, l(ofClass(i.A))
	case api.GET:
		return l(ofClass(i.A)), l(fields[i.B])
	case api.PUT:
		return l(ofClass(i.A), fields[i.B]), nil
	case api.CALL:
		for c := i.A; ; c = p.Classes[c].Super {
			for _, called := range p.Classes[c].Methods {
				if called.Slot == i.B {
					return append(l(ofClass(i.A)), called.Args...), l(called.Ret)
				}
			}
		}
	case api.RET:
		return l(m.Ret), nil
	case api.POP:
		return l(anything), nil
	case api.DUP:
		return l(anything), l(top(0), top(0))
	case api.NULL:
		return nil, l(api.Null)
	case api.CAST:
		return l(reference), l(ofClass(i.A))
	case api.IFNULL:
		return l(reference), nil
	case api.SWAP:
		return l(anything, anything), l(top(0), top(1))
	}
	return nil, nil // GOTO
}

// after is the next state, and whether the instruction fits.
func after(p api.Program, m api.Method, i api.Ins, s typing) (typing, bool) {
	takes, leaves := rule(p, m, i, s)
	rest := len(s.stack) - len(takes)
	if rest < 0 || rest+len(leaves) > m.Stack {
		return typing{}, false
	}
	for k, want := range takes {
		got := s.stack[rest+k]
		switch {
		case want == known && got == api.Top,
			want == reference && (got == api.Int || got == api.Top),
			want >= 0 && !under(p, got, want):
			return typing{}, false
		}
	}
	next := typing{slices.Clone(s.locals), slices.Concat(s.stack[:rest], leaves)}
	if i.Op == api.LOAD && s.locals[i.A] == api.Top {
		return typing{}, false
	}
	if i.Op == api.STORE {
		next.locals[i.A] = s.stack[rest]
	}
	return next, true
}

// goesOn is the next instruction or -1, and the place or -1.
func goesOn(code []api.Ins, at int) (next, place int) {
	next, place = at+1, -1
	switch code[at].Op {
	case api.GOTO:
		return -1, code[at].A
	case api.RET:
		return -1, -1
	case api.IFZERO, api.IFNULL:
		place = code[at].A
	}
	return next, place
}

func beginning(class int, m api.Method) typing {
	s := typing{locals: slices.Concat([]api.Type{ofClass(class)}, m.Args)}
	for len(s.locals) < m.Locals {
		s.locals = append(s.locals, api.Top)
	}
	return s
}

// solution goes all ways through the code, each for itself: what stands at an
// instruction is the least that is above what stands there on any way. Then it
// looks whether that fits, too. It tells nothing if the method is not sound.
func solution(p api.Program, class int, m api.Method) []api.Frame {
	type point struct {
		at int
		s  typing
	}
	seen := map[string]bool{}
	joined := map[int]typing{}
	todo := []point{{0, beginning(class, m)}}
	for len(todo) > 0 {
		here := todo[len(todo)-1]
		todo = todo[:len(todo)-1]
		key := fmt.Sprint(here.at, here.s)
		if seen[key] {
			continue
		}
		seen[key] = true
		if here.at == len(m.Code) {
			return nil
		}
		was, been := joined[here.at]
		if been && len(was.stack) != len(here.s.stack) {
			return nil
		}
		if !been {
			was = here.s
		}
		joined[here.at] = typing{eachJoined(p, was.locals, here.s.locals), eachJoined(p, was.stack, here.s.stack)}
		left, fits := after(p, m, m.Code[here.at], here.s)
		if !fits {
			return nil
		}
		next, place := goesOn(m.Code, here.at)
		if next >= 0 {
			todo = append(todo, point{next, left})
		}
		if place >= 0 {
			todo = append(todo, point{place, left})
		}
	}
	var frames []api.Frame
	for at := range m.Code {
		if s, reached := joined[at]; reached {
			if _, fits := after(p, m, m.Code[at], s); !fits {
				return nil
			}
			frames = append(frames, api.Frame{At: at, Locals: s.locals, Stack: s.stack})
		}
	}
	return frames
}

func eachJoined(p api.Program, a, b []api.Type) []api.Type {
	var l []api.Type
	for k := range a {
		l = append(l, leastAbove(p, a[k], b[k]))
	}
	return l
}

// ofPlaces is the frames of a solution that the document gives to Certify.
func ofPlaces(m api.Method, all []api.Frame) []api.Frame {
	var frames []api.Frame
	for _, f := range all {
		for _, from := range all {
			if _, place := goesOn(m.Code, from.At); place == f.At {
				frames = append(frames, f)
				break
			}
		}
	}
	return frames
}

// passes is the pass.
func passes(p api.Program, class int, m api.Method) bool {
	frames := map[int]typing{}
	for _, f := range m.Frames {
		frames[f.At] = typing{f.Locals, f.Stack}
	}
	first := beginning(class, m)
	hand := &first
	for at := range m.Code {
		if f, framed := frames[at]; framed {
			if hand != nil && !stateUnder(p, *hand, f) {
				return false
			}
			hand = &f
		}
		if hand == nil {
			continue
		}
		left, fits := after(p, m, m.Code[at], *hand)
		if !fits {
			return false
		}
		next, place := goesOn(m.Code, at)
		if f, framed := frames[place]; place >= 0 && (!framed || !stateUnder(p, left, f)) {
			return false
		}
		hand = nil
		if next >= 0 {
			hand = &left
		}
		if next == len(m.Code) {
			return false
		}
	}
	return true
}
