package assay_test

import (
	"fmt"
	"math"
	"slices"
	"testing"

	"assay/api"
	"assay/assay"
)

// refusesRun asks both machines for an error, and nothing beside it.
func refusesRun(t *testing.T, name string, p api.Program, class, slot int, args []int, fuel int, want api.Errno) {
	t.Helper()
	for _, ask := range []bool{true, false} {
		if got, e := assay.Run(p, class, slot, args, fuel, ask); e != want || !isNothing(got) {
			t.Errorf("%s: Run that asks, %v: %v, %d, want %d", name, ask, got, e, want)
		}
	}
}

// oddInts is numbers that are no class, slot or fuel.
func oddInts() []int {
	return []int{-1, -2, math.MinInt, math.MaxInt, 1 << 32, -1 << 32, 1 << 31, 5001, 6 + 1<<16}
}

// P7: ErrArg: the class, the slot, the Args, how many there are, the fuel.
func TestRunErrArg(t *testing.T) {
	p := launch(0, 1, ins(api.NUM, 1, 0, api.RET, 0, 0))
	two := launchArgs()
	for _, n := range oddInts() {
		refusesRun(t, "class", p, n, launchSlot, two, 100, api.ErrArg)
		refusesRun(t, "slot", p, launchClass, n, two, 100, api.ErrArg)
		refusesRun(t, "slot, no args", p, launchClass, n, nil, 100, api.ErrArg)
		refusesRun(t, "fuel", p, launchClass, launchSlot, two, n, api.ErrArg)
	}
	refusesRun(t, "class behind the last", p, 6, launchSlot, two, 100, api.ErrArg)
	refusesRun(t, "slot behind the last", p, launchClass, 6, nil, 100, api.ErrArg)
	refusesRun(t, "slot of a class beside", p, launchClass, 3, nil, 100, api.ErrArg)
	refusesRun(t, "slot of a class below", p, 0, 1, nil, 100, api.ErrArg)
	refusesRun(t, "too few args", p, launchClass, launchSlot, two[:1], 100, api.ErrArg)
	refusesRun(t, "no args", p, launchClass, launchSlot, nil, 100, api.ErrArg)
	refusesRun(t, "too many args", p, launchClass, launchSlot, []int{1, 2, 3}, 100, api.ErrArg)
	refusesRun(t, "very many args", p, launchClass, launchSlot, make([]int, 1<<20), 100, api.ErrArg)
	refusesRun(t, "an arg for none", p, launchClass, 1, []int{1}, 100, api.ErrArg)
	refusesRun(t, "an object first", p, 2, 3, []int{1}, 100, api.ErrArg)
	refusesRun(t, "an object behind a number", p, launchClass, 2, two, 100, api.ErrArg)
	refusesRun(t, "an object in the middle", p, launchClass, 0, []int{1, 2, 3}, 100, api.ErrArg)
	for c := range 6 {
		want := ended(api.Fuel, 0)
		if got, e := assay.Run(p, c, launchSlot, two, 0, true); e != api.OK || !sameOutcome(got, want) {
			t.Errorf("class %d, no fuel: %v, %d", c, got, e)
		}
	}
	comesTo(t, "most fuel", p, api.MaxFuel, done(1, 2))
}

// P1, P7: which error goes ahead of which.
func TestRunErrorsInOrder(t *testing.T) {
	bad := func(change func(p *api.Program)) api.Program {
		p := launch(0, 1, ins(api.NUM, 1, 0, api.RET, 0, 0))
		p.Classes[5].Methods[0].Code = ins(api.RET, 0, 0) // does not pass
		change(&p)
		return p
	}
	noClass := bad(func(p *api.Program) { p.Classes[5].Super, p.Classes[4].Methods[0].Code = 5, nil })
	noCode := bad(func(p *api.Program) { p.Classes[4].Methods[0].Code = nil })
	noFrame := bad(func(p *api.Program) { p.Classes[4].Methods[0].Frames = []api.Frame{{At: 2}} })
	noPass := bad(func(p *api.Program) {})
	for name, call := range map[string]struct {
		class, slot int
		args        []int
		fuel        int
	}{
		"class": {6, launchSlot, launchArgs(), 9},
		"slot":  {launchClass, 3, launchArgs(), 9},
		"Args":  {launchClass, 2, launchArgs(), 9},
		"args":  {launchClass, launchSlot, nil, 9},
		"fuel":  {launchClass, launchSlot, launchArgs(), -1},
	} {
		refusesRun(t, name+", classes", noClass, call.class, call.slot, call.args, call.fuel, api.ErrClass)
		refusesRun(t, name+", code", noCode, call.class, call.slot, call.args, call.fuel, api.ErrCode)
		refusesRun(t, name+", frames", noFrame, call.class, call.slot, call.args, call.fuel, api.ErrCode)
		refusesRun(t, name+", pass", noPass, call.class, call.slot, call.args, call.fuel, api.ErrArg)
	}
	refusesRun(t, "classes alone", noClass, launchClass, launchSlot, launchArgs(), 9, api.ErrClass)
	refusesRun(t, "code alone", noCode, launchClass, launchSlot, launchArgs(), 9, api.ErrCode)
	refusesRun(t, "frames alone", noFrame, launchClass, launchSlot, launchArgs(), 9, api.ErrCode)
	refusesRun(t, "no class at all", api.Program{}, 0, 0, nil, 9, api.ErrClass)
}

// P7: one method that does not pass, whichever it is, is ErrCheck for the
// machine that does not ask, and nothing to the other one, if it isn't run.
func TestRunErrCheck(t *testing.T) {
	good := launch(0, 1, ins(api.NUM, 1, 0, api.RET, 0, 0))
	comesTo(t, "all pass", good, 9, done(1, 2))
	for c, class := range good.Classes {
		for k, m := range class.Methods {
			if m.Slot == launchSlot {
				continue
			}
			name := fmt.Sprintf("class %d, method %d", c, k)
			p := copied(good)
			p.Classes[c].Methods[k].Code = ins(api.POP, 0, 0, api.RET, 0, 0)
			onlyAsked(t, name+" is not sound", p, 9, done(1, 2))
			p = copied(good)
			p.Classes[c].Methods[k].Code = ins(api.GOTO, 0, 0)
			onlyAsked(t, name+" lacks a frame", p, 9, done(1, 2))
			comesTo(t, name+" with the frame", p, 9, done(1, 2))
		}
	}
}

// P7: a program that is sound, but does not pass: only its certificate lets the
// machine that does not ask run it.
func TestRunNeedsFrames(t *testing.T) {
	p := launch(0, 1, ins(api.GOTO, 1, 0, api.NUM, 1, 0, api.RET, 0, 0))
	onlyAsked(t, "no frame", p, 9, done(1, 3))
	comesTo(t, "its frame", p, 9, done(1, 3))
}

// askFaults asks for runs to which only the machine that asks comes.
func askFaults(t *testing.T, cases []runCase) {
	t.Helper()
	for _, c := range cases {
		onlyAsked(t, c.name, launch(c.ret, c.stack, c.code), 100, c.want)
	}
}

// Machines: Fault, by each of its causes.
func TestRunFaults(t *testing.T) {
	askFaults(t, []runCase{
		{"no next instruction", 0, 1, ins(api.NUM, 1, 0), ended(api.Fault, 1)},
		{"no next instruction behind IFZERO", 0, 1, ins(api.NUM, 1, 0, api.IFZERO, 0, 0), ended(api.Fault, 2)},
		{"no next instruction behind IFNULL", 0, 1, ins(api.LOAD, 0, 0, api.IFNULL, 0, 0), ended(api.Fault, 2)},
		{"no next instruction behind CALL", 0, 1, ins(api.NEW, 4, 0, api.CALL, 1, 1), ended(api.Fault, 4)},
		{"no next instruction behind PRINT", 0, 1, ins(api.NUM, 1, 0, api.PRINT, 0, 0), ended(api.Fault, 2, 1)},
		{"a local in which nothing was put", 0, 1, ins(api.LOAD, 3, 0, api.RET, 0, 0), ended(api.Fault, 0)},
		{"the last local", 0, 1, ins(api.NUM, 1, 0, api.STORE, 3, 0, api.LOAD, 4, 0, api.RET, 0, 0), ended(api.Fault, 2)},
		{"no room", 0, 0, ins(api.NUM, 1, 0, api.RET, 0, 0), ended(api.Fault, 0)},
		{"no more room", 0, 1, ins(api.NUM, 1, 0, api.NUM, 1, 0, api.RET, 0, 0), ended(api.Fault, 1)},
		{"null told for a number", 0, 1, ins(api.NULL, 0, 0, api.RET, 0, 0), ended(api.Fault, 1)},
		{"an object told for a number", 0, 1, ins(api.NEW, 0, 0, api.RET, 0, 0), ended(api.Fault, 1)},
		{"a number told for an object", 3, 1, ins(api.NUM, 0, 0, api.RET, 0, 0), ended(api.Fault, 1)},
		{"an object of a class above told", 4, 1, ins(api.NEW, 0, 0, api.RET, 0, 0), ended(api.Fault, 1)},
		{"an object of a class beside told", 4, 1, ins(api.NEW, 2, 0, api.RET, 0, 0), ended(api.Fault, 1)},
		{"what was printed stays", 0, 1, ins(api.NUM, 4, 0, api.PRINT, 0, 0, api.NUM, 5, 0, api.PRINT, 0, 0, api.RET, 0, 0), ended(api.Fault, 4, 4, 5)},
	})
}

// faultIn runs launch's method, which calls the slot 1 of an object of class 4,
// that has this code.
func faultIn(t *testing.T, name string, code []api.Ins, want api.Outcome) {
	t.Helper()
	p := launch(0, 8, ins(api.NUM, 1, 0, api.NUM, 2, 0, api.NEW, 4, 0, api.CALL, 1, 1, api.RET, 0, 0))
	p.Classes[4].Methods[0].Code = code
	p.Classes[4].Methods[0].Locals = 2
	onlyAsked(t, name, p, 100, want)
}

// Machines: a called method has its own stack, locals and Ret.
func TestRunFaultsInside(t *testing.T) {
	faultIn(t, "the caller's stack", ins(api.RET, 0, 0), ended(api.Fault, 4))
	faultIn(t, "the caller's room", ins(api.NUM, 1, 0, api.NUM, 1, 0, api.RET, 0, 0), ended(api.Fault, 5))
	faultIn(t, "the caller's local", ins(api.LOAD, 1, 0, api.RET, 0, 0), ended(api.Fault, 4))
	faultIn(t, "a wrong Ret", ins(api.LOAD, 0, 0, api.RET, 0, 0), ended(api.Fault, 5))
	faultIn(t, "no next instruction", ins(api.NUM, 1, 0), ended(api.Fault, 5))
}

// Machines: a local in which nothing was put has nothing, whatever other calls
// of the same method put there.
func TestRunLocalsAnew(t *testing.T) {
	m := method(0, 0, 0)
	m.Locals, m.Stack = 3, 2
	m.Code = ins(api.LOAD, 1, 0, api.IFZERO, 8, 0, api.NUM, 5, 0, api.STORE, 2, 0, api.LOAD, 0, 0, api.NUM, 0, 0, api.CALL, 0, 0, api.RET, 0, 0, api.LOAD, 2, 0, api.RET, 0, 0)
	p := api.Program{Classes: []api.Class{{Super: -1, Methods: []api.Method{m}}}}
	if got, e := assay.Run(p, 0, 0, []int{1}, 100, true); e != api.OK || !sameOutcome(got, ended(api.Fault, 9)) {
		t.Errorf("%v, %d", got, e)
	}
}

// P7: with too little fuel a run ends where it is, and what is done till then is
// the same; with enough, more makes no difference.
func TestRunFuel(t *testing.T) {
	p := launch(0, 2, ins(api.LOAD, 1, 0, api.PRINT, 0, 0, api.NEW, 5, 0, api.CALL, 1, 1, api.PRINT, 0, 0,
		api.LOAD, 1, 0, api.NUM, 1, 0, api.SUB, 0, 0, api.DUP, 0, 0, api.STORE, 1, 0, api.IFZERO, 12, 0, api.GOTO, 0, 0, api.NUM, 6, 0, api.RET, 0, 0))
	var printed []int
	steps := 0
	for left := 7; left > 0; left-- {
		for k := range 14 {
			if left == 1 && k == 13 {
				break // it jumps ahead of its last GOTO
			}
			comesTo(t, "on the way", p, steps, ended(api.Fuel, steps, printed...))
			steps++
			switch k {
			case 1:
				printed = append(printed, left)
			case 6:
				printed = append(printed, 50)
			}
		}
	}
	comesTo(t, "ahead of NUM", p, steps, ended(api.Fuel, steps, printed...))
	comesTo(t, "ahead of RET", p, steps+1, ended(api.Fuel, steps+1, printed...))
	for _, fuel := range []int{steps + 2, steps + 3, 1000, api.MaxFuel} {
		comesTo(t, "to its end", p, fuel, done(6, steps+2, printed...))
	}
}

// P7: all the fuel that may be given.
func TestRunMostFuel(t *testing.T) {
	comesTo(t, "round", launch(0, 0, ins(api.GOTO, 0, 0)), api.MaxFuel, ended(api.Fuel, api.MaxFuel))
	printed := make([]int, api.MaxFuel/3)
	for k := range printed {
		printed[k] = 7
	}
	comesTo(t, "round, printing", launch(0, 1, ins(api.LOAD, 1, 0, api.PRINT, 0, 0, api.GOTO, 0, 0)), api.MaxFuel-2, ended(api.Fuel, api.MaxFuel-2, printed...))
}

// P7: as many methods as may run, and one more.
func TestRunDeep(t *testing.T) {
	m := method(0, 0, 0)
	m.Stack = 3
	m.Code = ins(api.LOAD, 1, 0, api.IFZERO, 8, 0, api.LOAD, 0, 0, api.LOAD, 1, 0, api.NUM, 1, 0, api.SUB, 0, 0, api.CALL, 0, 0, api.RET, 0, 0, api.LOAD, 1, 0, api.PRINT, 0, 0, api.NUM, 9, 0, api.RET, 0, 0)
	p, _ := assay.Certify(api.Program{Classes: []api.Class{{Super: -1, Methods: []api.Method{m}}}})
	for _, ask := range []bool{true, false} {
		for n := range api.MaxDeep {
			if got, e := assay.Run(p, 0, 0, []int{n}, api.MaxFuel, ask); e != api.OK || !sameOutcome(got, done(9, 8*n+6, 0)) {
				t.Errorf("%d: %v, %d", n, got, e)
			}
		}
		for _, n := range []int{api.MaxDeep, api.MaxDeep + 1, 1000, -1} {
			if got, e := assay.Run(p, 0, 0, []int{n}, api.MaxFuel, ask); e != api.OK || !sameOutcome(got, ended(api.Deep, 7*api.MaxDeep-1)) {
				t.Errorf("%d: %v, %d", n, got, e)
			}
		}
	}
}

// P7: methods that have ended run no more.
func TestRunDeepAgain(t *testing.T) {
	comesTo(t, "fifty calls", launch(0, 2, ins(api.NEW, 4, 0, api.STORE, 3, 0, api.NUM, 50, 0, api.STORE, 1, 0,
		api.LOAD, 3, 0, api.CALL, 1, 1, api.POP, 0, 0, api.LOAD, 1, 0, api.NUM, 1, 0, api.SUB, 0, 0, api.DUP, 0, 0, api.STORE, 1, 0, api.IFZERO, 14, 0, api.GOTO, 4, 0,
		api.NUM, 2, 0, api.RET, 0, 0)), 1000, done(2, 4+50*12-1+2))
}

// P7: as many objects as there may be, that at the beginning among them, and one
// more, whether they are still in use or not.
func TestRunRoom(t *testing.T) {
	m := method(0, 0, 0)
	m.Stack = 2
	m.Code = ins(api.LOAD, 1, 0, api.IFZERO, 9, 0, api.NEW, 0, 0, api.POP, 0, 0, api.LOAD, 1, 0, api.NUM, 1, 0, api.SUB, 0, 0, api.STORE, 1, 0, api.GOTO, 0, 0, api.NUM, 9, 0, api.RET, 0, 0)
	p, _ := assay.Certify(api.Program{Classes: []api.Class{{Super: -1, Methods: []api.Method{m}}}})
	for _, ask := range []bool{true, false} {
		for n := range api.MaxObjects {
			if got, e := assay.Run(p, 0, 0, []int{n}, api.MaxFuel, ask); e != api.OK || !sameOutcome(got, done(9, 9*n+4)) {
				t.Errorf("%d: %v, %d", n, got, e)
			}
		}
		for _, n := range []int{api.MaxObjects, 1000, -1} {
			if got, e := assay.Run(p, 0, 0, []int{n}, api.MaxFuel, ask); e != api.OK || !sameOutcome(got, ended(api.Room, 9*(api.MaxObjects-1)+2)) {
				t.Errorf("%d: %v, %d", n, got, e)
			}
		}
	}
}

// Machines: of two ends that one instruction might have, the one that is asked
// for first.
func TestRunEndsInOrder(t *testing.T) {
	for _, fuel := range []int{1, 2, 100} {
		onlyAsked(t, "no next instruction, with or without fuel", launch(0, 1, ins(api.NUM, 1, 0)), fuel, ended(api.Fault, 1))
	}
	onlyAsked(t, "no next instruction behind a call, without fuel", launch(0, 1, ins(api.NEW, 4, 0, api.CALL, 1, 1)), 4, ended(api.Fault, 4))
	onlyAsked(t, "no fuel, and nothing to take", launch(0, 1, ins(api.RET, 0, 0)), 0, ended(api.Fuel, 0))
	comesTo(t, "no fuel, and null", launch(0, 1, ins(api.NULL, 0, 0, api.GET, 0, 0, api.RET, 0, 0)), 1, ended(api.Fuel, 1))
	comesTo(t, "no fuel, and 0", launch(0, 2, ins(api.NUM, 1, 0, api.NUM, 0, 0, api.DIV, 0, 0, api.RET, 0, 0)), 2, ended(api.Fuel, 2))
	comesTo(t, "no fuel, and a wrong CAST", launch(3, 1, ins(api.NEW, 2, 0, api.CAST, 1, 0, api.RET, 0, 0)), 1, ended(api.Fuel, 1))
	comesTo(t, "no fuel, and too deep", launch(0, 1, ins(api.LOAD, 0, 0, api.CALL, 0, 5, api.RET, 0, 0)), 59, ended(api.Fuel, 59))
	comesTo(t, "no fuel, and no objects", launch(0, 1, ins(api.NEW, 0, 0, api.POP, 0, 0, api.GOTO, 0, 0)), 297, ended(api.Fuel, 297))
	askFaults(t, []runCase{
		{"a wrong x, and null", 0, 2, ins(api.NULL, 0, 0, api.NULL, 0, 0, api.PUT, 0, 0, api.NUM, 0, 0, api.RET, 0, 0), ended(api.Fault, 2)},
		{"a number for an object, and null", 0, 2, ins(api.NULL, 0, 0, api.NUM, 0, 0, api.PUT, 0, 1, api.NUM, 0, 0, api.RET, 0, 0), ended(api.Fault, 2)},
		{"an x of a wrong class, and null", 0, 2, ins(api.NULL, 0, 0, api.NEW, 2, 0, api.PUT, 0, 1, api.NUM, 0, 0, api.RET, 0, 0), ended(api.Fault, 2)},
		{"a wrong x1, and null", 4, 4, ins(api.NULL, 0, 0, api.NULL, 0, 0, api.NULL, 0, 0, api.NULL, 0, 0, api.CALL, 0, 0, api.RET, 0, 0), ended(api.Fault, 4)},
		{"a wrong x2, and null", 4, 4, ins(api.NULL, 0, 0, api.NUM, 0, 0, api.NEW, 2, 0, api.NULL, 0, 0, api.CALL, 0, 0, api.RET, 0, 0), ended(api.Fault, 4)},
		{"a wrong x3, and null", 4, 4, ins(api.NULL, 0, 0, api.NUM, 0, 0, api.NULL, 0, 0, api.NUM, 0, 0, api.CALL, 0, 0, api.RET, 0, 0), ended(api.Fault, 4)},
		{"a number by 0, and not a number", 0, 2, ins(api.NULL, 0, 0, api.NUM, 0, 0, api.DIV, 0, 0, api.RET, 0, 0), ended(api.Fault, 2)},
		{"PUT of one value that is null", 0, 2, ins(api.NULL, 0, 0, api.PUT, 0, 1, api.NUM, 0, 0, api.RET, 0, 0), ended(api.Fault, 1)},
		{"CALL of too few values", 4, 4, ins(api.NULL, 0, 0, api.NUM, 0, 0, api.NULL, 0, 0, api.CALL, 0, 0, api.RET, 0, 0), ended(api.Fault, 3)},
	})
}

// Machines: Deep is told behind all that is asked, and so behind Null.
func TestRunDeepLast(t *testing.T) {
	deepest := func(code ...int) api.Program { // does this when as many run as may
		m := method(0, 0, 0)
		m.Locals, m.Stack = 2, 3
		m.Code = append(ins(api.LOAD, 1, 0, api.IFZERO, 8, 0, api.LOAD, 0, 0, api.LOAD, 1, 0, api.NUM, 1, 0, api.SUB, 0, 0, api.CALL, 0, 0, api.RET, 0, 0), ins(code...)...)
		return api.Program{Classes: []api.Class{{Super: -1, Methods: []api.Method{m}}, {Methods: []api.Method{method(1, 0)}}}}
	}
	full := 7*(api.MaxDeep-1) + 2
	for name, c := range map[string]struct {
		p    api.Program
		want api.Outcome
	}{
		"too deep":          {deepest(api.LOAD, 0, 0, api.NUM, 0, 0, api.CALL, 0, 0, api.RET, 0, 0), ended(api.Deep, full+2)},
		"null":              {deepest(api.NULL, 0, 0, api.NUM, 0, 0, api.CALL, 0, 0, api.RET, 0, 0), ended(api.NullEnd, full+2)},
		"a wrong argument":  {deepest(api.LOAD, 0, 0, api.NULL, 0, 0, api.CALL, 0, 0, api.RET, 0, 0), ended(api.Fault, full+2)},
		"a number":          {deepest(api.NUM, 0, 0, api.NUM, 0, 0, api.CALL, 0, 0, api.RET, 0, 0), ended(api.Fault, full+2)},
		"another class":     {deepest(api.LOAD, 0, 0, api.CALL, 1, 1, api.RET, 0, 0), ended(api.Fault, full+1)},
		"nothing to take":   {deepest(api.NUM, 0, 0, api.CALL, 0, 0, api.RET, 0, 0), ended(api.Fault, full+1)},
		"no next behind it": {deepest(api.LOAD, 0, 0, api.NUM, 0, 0, api.CALL, 0, 0), ended(api.Deep, full+2)},
	} {
		if got, e := assay.Run(c.p, 0, 0, []int{api.MaxDeep - 1}, api.MaxFuel, true); e != api.OK || !sameOutcome(got, c.want) {
			t.Errorf("%s: %v, %d, want %v", name, got, e, c.want)
		}
	}
}

// Machines: Room is told behind the stack's room, too.
func TestRunRoomLast(t *testing.T) {
	fill := ins(api.NUM, api.MaxObjects-1, 0, api.STORE, 1, 0, api.NEW, 2, 0, api.POP, 0, 0, api.LOAD, 1, 0, api.NUM, 1, 0, api.SUB, 0, 0,
		api.DUP, 0, 0, api.STORE, 1, 0, api.IFZERO, 11, 0, api.GOTO, 2, 0)
	full := 2 + 9*(api.MaxObjects-1) - 1
	comesTo(t, "no object", launch(3, 2, slices.Concat(fill, ins(api.NEW, 0, 0, api.RET, 0, 0))), api.MaxFuel, ended(api.Room, full))
	comesTo(t, "no object, on top", launch(3, 2, slices.Concat(fill, ins(api.NUM, 0, 0, api.NEW, 0, 0, api.RET, 0, 0))), api.MaxFuel, ended(api.Room, full+1))
	onlyAsked(t, "no object, no room", launch(3, 2, slices.Concat(fill, ins(api.NUM, 0, 0, api.DUP, 0, 0, api.NEW, 0, 0, api.RET, 0, 0))), api.MaxFuel, ended(api.Fault, full+2))
	onlyAsked(t, "no object, no next instruction", launch(3, 2, slices.Concat(fill, ins(api.NEW, 0, 0))), api.MaxFuel, ended(api.Room, full))
}

// eachIns is all instructions of launch's code, each with one A and B or some.
func eachIns() []api.Ins {
	all := ins(api.LOAD, 1, 0, api.LOAD, 3, 0, api.STORE, 3, 0, api.RET, 0, 0)
	for _, c := range fitCases() {
		i := c.ins
		if i.Op == api.GOTO || i.Op == api.IFZERO || i.Op == api.IFNULL {
			i.A = 0 // a place that is there in each code
		}
		all = append(all, i)
	}
	return all
}

// Machines: each instruction, with each stack of numbers, null and objects of
// all classes, is a Fault just if it does not fit what stands there; else it
// does what the words say.
func TestRunEachStack(t *testing.T) {
	for _, i := range eachIns() {
		height := min(1+(&plainly{p: launch(0, 1, ins(api.RET, 0, 0))}).takes(i), 4)
		for n := range height + 1 {
			eachList(n, func(types []api.Type) {
				if slices.Contains(types, api.Top) {
					return // no value is just Top
				}
				for room := range 3 {
					runBehind(t, i, types, n+room)
				}
			})
		}
	}
}

// runBehind runs code that lays values of these types on the stack, with the
// instruction behind it.
func runBehind(t *testing.T, i api.Ins, types []api.Type, stack int) {
	t.Helper()
	var code []api.Ins
	for _, kind := range types {
		code = append(code, pushing(kind))
	}
	p := launch(4, stack, append(code, i))
	m := p.Classes[0].Methods[1]
	s := beginning(launchClass, m)
	s.stack = types
	_, fits := after(p, m, i, s)
	const fuel = 30
	got, e := assay.Run(p, launchClass, launchSlot, launchArgs(), fuel, true)
	if want := plainRun(p, launchClass, launchSlot, launchArgs(), fuel); e != api.OK || !sameOutcome(got, want) {
		t.Errorf("%v behind %v, stack %d: %v, %d, want %v", i, types, stack, got, e, want)
	}
	if faulted := got.Kind == api.Fault && got.Steps == len(types); faulted == fits {
		t.Errorf("%v behind %v, stack %d: %v", i, types, stack, got)
	}
}
