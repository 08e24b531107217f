// Package assay: programs that are checked once, and then need no checks: see DOC.md.
package assay

import (
	"assay/api"
	"assay/lineage"
	"assay/machine"
	"assay/proof"
	"assay/refusal"
	"assay/shape"
	"assay/wire"
)

// Encode writes a program (P4).
func Encode(p api.Program) (string, api.Errno) {
	if errno := shape.Check(p); errno != api.OK {
		return "", errno
	}
	return wire.Write(p), api.OK
}

// Decode reads a program (P4).
func Decode(bytes string) (api.Program, api.Errno) {
	var p api.Program
	errno := attempt(func() { p = wire.Read(bytes) })
	if errno != api.OK {
		return api.Program{}, errno
	}
	// Encode writes no program that Form refuses, whatever Form's reason.
	if shape.Check(p) != api.OK {
		return api.Program{}, api.ErrBytes
	}
	return p, api.OK
}

// attempt turns the panic by which one gives up deep inside into an error.
func attempt(do func()) (errno api.Errno) {
	defer func() {
		cause := recover()
		if cause == nil {
			return
		}
		given, ok := cause.(refusal.Refusal)
		if !ok {
			// A fault of the program itself: an error would lay it to the caller.
			panic(cause)
		}
		errno = given.Why
	}()
	do()
	return api.OK
}

// Form tells whether a program is one (P3).
func Form(p api.Program) api.Errno { return shape.Check(p) }

// Infer is the least solution of a method (P5).
func Infer(p api.Program, class int, method int) ([]api.Frame, api.Errno) {
	m, errno := find(p, class, method)
	if errno != api.OK {
		return nil, errno
	}
	var frames []api.Frame
	errno = attempt(func() { frames = proof.Solve(p, class, m) })
	return frames, errno
}

// find is a class's own method of this number, in a program that holds.
func find(p api.Program, class int, method int) (api.Method, api.Errno) {
	if errno := shape.Check(p); errno != api.OK {
		return api.Method{}, errno
	}
	m, found := lineage.OwnMethod(p, class, method)
	if !found {
		return api.Method{}, api.ErrArg
	}
	return m, api.OK
}

// Certify gives all methods their frames (P5).
func Certify(p api.Program) (api.Program, api.Errno) {
	if errno := shape.Check(p); errno != api.OK {
		return api.Program{}, errno
	}
	var certified api.Program
	errno := attempt(func() { certified = proof.Certify(p) })
	return certified, errno
}

// Check passes a method (P6).
func Check(p api.Program, class int, method int) api.Errno {
	m, errno := find(p, class, method)
	if errno != api.OK {
		return errno
	}
	return attempt(func() { proof.Pass(p, class, m) })
}

// Run runs a program (P7).
func Run(p api.Program, class int, slot int, args []int, fuel int, ask bool) (api.Outcome, api.Errno) {
	if errno := shape.Check(p); errno != api.OK {
		return api.Outcome{}, errno
	}
	if !takesNumbers(p, class, slot, len(args)) || fuel < 0 || fuel > api.MaxFuel {
		return api.Outcome{}, api.ErrArg
	}
	if !ask {
		if errno := attempt(func() { proof.PassAll(p) }); errno != api.OK {
			return api.Outcome{}, errno
		}
	}
	return machine.Run(p, class, slot, args, fuel, ask), api.OK
}

// takesNumbers tells whether a class has a method of this slot that takes just
// so many numbers, and nothing else.
func takesNumbers(p api.Program, class int, slot int, count int) bool {
	if !lineage.HasClass(p, class) {
		return false
	}
	m, found := lineage.FindMethod(p, class, slot)
	if !found || len(m.Args) != count {
		return false
	}
	for _, t := range m.Args {
		if t != api.Int {
			return false
		}
	}
	return true
}
