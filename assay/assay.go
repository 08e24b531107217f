// Package assay: programs that are checked once, and then need no checks: see DOC.md.
package assay

import (
	"assay/api"
	"assay/shape"
	"assay/wire"
)

// Encode writes a program (P4).
func Encode(p api.Program) (string, api.Errno) {
	if errno := shape.Check(p); errno != api.OK {
		return "", errno
	}
	return wire.Write(p), api.OK
}

// Decode reads a program (P4).
func Decode(bytes string) (api.Program, api.Errno) {
	p, errno := read(bytes)
	if errno != api.OK {
		return api.Program{}, errno
	}
	// Encode writes no program that Form refuses, whatever Form's reason.
	if shape.Check(p) != api.OK {
		return api.Program{}, api.ErrBytes
	}
	return p, api.OK
}

// read turns the panic by which wire.Read gives up into an error.
func read(bytes string) (p api.Program, errno api.Errno) {
	defer func() {
		cause := recover()
		if cause == nil {
			return
		}
		refusal, ok := cause.(wire.Refusal)
		if !ok {
			// A fault of the program itself: ErrBytes would lay it to the bytes.
			panic(cause)
		}
		p, errno = api.Program{}, refusal.Why
	}()
	return wire.Read(bytes), api.OK
}

// Form tells whether a program is one (P3).
func Form(p api.Program) api.Errno { return shape.Check(p) }

// Infer is the least solution of a method (P5).
func Infer(p api.Program, class int, method int) ([]api.Frame, api.Errno) { return nil, api.OK }

// Certify gives all methods their frames (P5).
func Certify(p api.Program) (api.Program, api.Errno) { return api.Program{}, api.OK }

// Check passes a method (P6).
func Check(p api.Program, class int, method int) api.Errno { return api.OK }

// Run runs a program (P7).
func Run(p api.Program, class int, slot int, args []int, fuel int, ask bool) (api.Outcome, api.Errno) {
	return api.Outcome{}, api.OK
}
