// Package refusal: giving up from deep inside, by panic.
//
// Package assay recovers it; what lies between needs to hand no error on.
package refusal

import "assay/api"

// Refusal is what GiveUp panics with.
type Refusal struct {
	Why api.Errno
}

// GiveUp ends what is being done, up to the call that was asked for.
func GiveUp(why api.Errno) {
	panic(Refusal{Why: why})
}
