// Package flow: where code goes on.
package flow

import (
	"iter"

	"assay/api"
)

// Onward tells the instructions at which the one at a place may go on, and of
// each whether it jumps there: its place, and the next one, which lies behind
// the end of the code if it is the last. They may be one and the same: then
// that is told twice, since a jump asks for more than going on to the next.
func Onward(code []api.Ins, at int) iter.Seq2[int, bool] {
	return func(yield func(int, bool) bool) {
		ins := code[at]
		if jumps(ins) && !yield(ins.A, true) {
			return
		}
		if fallsThrough(ins) {
			yield(at+1, false)
		}
	}
}

func jumps(ins api.Ins) bool {
	return ins.Op == api.GOTO || ins.Op == api.IFZERO || ins.Op == api.IFNULL
}

func fallsThrough(ins api.Ins) bool {
	return ins.Op != api.GOTO && ins.Op != api.RET
}
