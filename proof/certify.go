package proof

import (
	"assay/api"
	"assay/flow"
)

// Certify is the program, in new memory, with frames that let it pass.
func Certify(p api.Program) api.Program {
	var certified api.Program
	for c, class := range p.Classes {
		certified.Classes = append(certified.Classes, api.Class{
			Super:   class.Super,
			Fields:  copied(class.Fields),
			Methods: certifyMethods(p, c),
		})
	}
	return certified
}

func copied[T any](list []T) []T {
	return append([]T(nil), list...)
}

func certifyMethods(p api.Program, class int) []api.Method {
	methods := copied(p.Classes[class].Methods)
	for k, m := range methods {
		methods[k].Args = copied(m.Args)
		methods[k].Code = copied(m.Code)
		methods[k].Frames = framesOfPlaces(m.Code, Solve(p, class, m))
	}
	return methods
}

// framesOfPlaces is those frames of a solution to which the code that is come
// to jumps. All others the pass finds by itself.
func framesOfPlaces(code []api.Ins, solution []api.Frame) []api.Frame {
	var isPlace [api.MaxCode]bool
	for _, f := range solution {
		for place, jumped := range flow.Onward(code, f.At) {
			if jumped {
				isPlace[place] = true
			}
		}
	}
	var frames []api.Frame
	for _, f := range solution {
		if isPlace[f.At] {
			frames = append(frames, f)
		}
	}
	return frames
}
