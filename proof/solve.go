// Package proof: what stands where in a method, worked out anew or checked in
// one pass. What is not sound, or does not pass, is given up.
package proof

import (
	"assay/api"
	"assay/fit"
	"assay/flow"
	"assay/refusal"
	"assay/state"
)

// Solve is the least solution of a method of a class, by rising At.
//
// It goes round, and raises states no more than it must. So where something
// does not fit, it fits no solution: what fits a state fits all below it.
func Solve(p api.Program, class int, m api.Method) []api.Frame {
	s := solver{p: p, m: m}
	s.reach(0, state.Begin(class, m))
	for s.goRound() {
	}
	return s.frames()
}

type solver struct {
	p       api.Program
	m       api.Method
	states  [api.MaxCode]state.State
	reached [api.MaxCode]bool
	raised  [api.MaxCode]bool // since it was last gone on from
}

// goRound goes on from all that was raised, and tells whether anything was.
func (s *solver) goRound() bool {
	moved := false
	for at := range s.m.Code {
		if s.raised[at] {
			s.raised[at] = false
			s.goOn(at)
			moved = true
		}
	}
	return moved
}

func (s *solver) goOn(at int) {
	next := fit.Next(s.p, s.m, at, s.states[at])
	for place := range flow.Onward(s.m.Code, at) {
		s.reach(place, next)
	}
}

// reach raises the state of an instruction until the given one is below it.
func (s *solver) reach(at int, given state.State) {
	if s.reached[at] {
		if given.Below(s.p, s.states[at]) {
			return
		}
		joined, ok := s.states[at].Join(s.p, given)
		if !ok {
			refusal.GiveUp(api.ErrCheck)
		}
		given = joined
	}
	s.states[at], s.reached[at], s.raised[at] = given, true, true
}

func (s *solver) frames() []api.Frame {
	var frames []api.Frame
	for at := range s.m.Code {
		if s.reached[at] {
			frames = append(frames, s.states[at].Frame(at, s.m.Locals))
		}
	}
	return frames
}
