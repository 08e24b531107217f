package proof

import (
	"assay/api"
	"assay/fit"
	"assay/flow"
	"assay/refusal"
	"assay/state"
)

// PassAll passes all methods of a program.
func PassAll(p api.Program) {
	for c, class := range p.Classes {
		for _, m := range class.Methods {
			Pass(p, c, m)
		}
	}
}

// Pass goes through a method of a class once, from the front to the end, and
// gives up if it fails.
func Pass(p api.Program, class int, m api.Method) {
	hand, atHand := state.Begin(class, m), true
	for at := range m.Code {
		told, framed := frameAt(m, at)
		if framed && atHand {
			mustBeBelow(p, hand, told)
		}
		if framed {
			hand, atHand = told, true
		}
		if !atHand {
			continue
		}
		hand = fit.Next(p, m, at, hand)
		atHand = false
		for place, jumped := range flow.Onward(m.Code, at) {
			if jumped {
				mustBeFramed(p, m, place, hand)
			} else {
				atHand = true
			}
		}
	}
}

func frameAt(m api.Method, at int) (state.State, bool) {
	for _, f := range m.Frames {
		if f.At == at {
			return state.Told(f), true
		}
	}
	return state.State{}, false
}

// mustBeFramed asks for a frame at a place, and that s is below it.
func mustBeFramed(p api.Program, m api.Method, place int, s state.State) {
	told, framed := frameAt(m, place)
	if !framed {
		refusal.GiveUp(api.ErrCheck)
	}
	mustBeBelow(p, s, told)
}

func mustBeBelow(p api.Program, s state.State, told state.State) {
	if !s.Below(p, told) {
		refusal.GiveUp(api.ErrCheck)
	}
}
