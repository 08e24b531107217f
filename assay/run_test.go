package assay_test

import (
	"math"
	"reflect"
	"slices"
	"testing"

	"assay/api"
	"assay/assay"
)

// launch is kin with a method of this code in the slot 4 of class 0, which takes
// two numbers; the slot 5 of class 0 calls itself. Slot 1 gives 0 in class 1,
// 40 in class 4 and 50 in class 5.
func launch(ret api.Type, stack int, code []api.Ins, frames ...api.Frame) api.Program {
	p := kin(coder(0, 1, ins(api.NUM, 0, 0, api.RET, 0, 0)))
	m := api.Method{Slot: 4, Args: []api.Type{0, 0}, Ret: ret, Locals: kinLocals, Stack: stack, Code: code, Frames: frames}
	again := method(5, api.Int)
	again.Code = ins(api.LOAD, 0, 0, api.CALL, 0, 5, api.RET, 0, 0)
	p.Classes[0].Methods = append(p.Classes[0].Methods, m, again)
	for _, c := range []int{4, 5} {
		gives := method(1, api.Int)
		gives.Code = ins(api.NUM, 10*c, 0, api.RET, 0, 0)
		p.Classes[c].Methods = append(p.Classes[c].Methods, gives)
	}
	return copied(p)
}

// Where launch's method is run: of this class, which inherits it, in this slot,
// with these numbers.
const launchClass, launchSlot = 3, 4

func launchArgs() []int { return []int{7, -2} }

// done is an outcome of a run that was done to its end.
func done(value, steps int, printed ...int) api.Outcome {
	return api.Outcome{Kind: api.Done, Value: value, Printed: printed, Steps: steps}
}

// ended is an outcome of any other run.
func ended(kind, steps int, printed ...int) api.Outcome {
	return api.Outcome{Kind: kind, Printed: printed, Steps: steps}
}

func sameOutcome(a, b api.Outcome) bool {
	return a.Kind == b.Kind && a.Value == b.Value && a.Steps == b.Steps && slices.Equal(a.Printed, b.Printed)
}

// comesTo asks both machines for this outcome of launch's method. The program is
// sound; it is run with the frames that Certify gives it.
func comesTo(t *testing.T, name string, p api.Program, fuel int, want api.Outcome) {
	t.Helper()
	certified, e := assay.Certify(p)
	if e != api.OK {
		t.Errorf("%s: Certify: %d", name, e)
		return
	}
	for _, ask := range []bool{true, false} {
		got, e := assay.Run(certified, launchClass, launchSlot, launchArgs(), fuel, ask)
		if e != api.OK || !sameOutcome(got, want) {
			t.Errorf("%s: Run that asks, %v: %v, %d, want %v", name, ask, got, e, want)
		}
	}
	if got, e := assay.Run(p, launchClass, launchSlot, launchArgs(), fuel, true); e != api.OK || !sameOutcome(got, want) {
		t.Errorf("%s: Run without frames: %v, %d, want %v", name, got, e, want)
	}
}

// onlyAsked asks for this outcome of launch's method from the machine that asks,
// and from the other one for ErrCheck: some method of the program does not pass.
func onlyAsked(t *testing.T, name string, p api.Program, fuel int, want api.Outcome) {
	t.Helper()
	if got, e := assay.Run(p, launchClass, launchSlot, launchArgs(), fuel, true); e != api.OK || !sameOutcome(got, want) {
		t.Errorf("%s: Run: %v, %d, want %v", name, got, e, want)
	}
	if got, e := assay.Run(p, launchClass, launchSlot, launchArgs(), fuel, false); e != api.ErrCheck || !isNothing(got) {
		t.Errorf("%s: Run that does not ask: %v, %d, want ErrCheck", name, got, e)
	}
}

func isNothing(o api.Outcome) bool {
	return o.Kind == 0 && o.Value == 0 && len(o.Printed) == 0 && o.Steps == 0
}

// P7: the document's examples.
func TestRunExamples(t *testing.T) {
	p := example()
	for _, ask := range []bool{true, false} {
		if got, e := assay.Run(p, 0, 1, []int{7}, 100, ask); e != api.OK || !sameOutcome(got, done(7, 9)) {
			t.Errorf("fuel 100: %v, %d", got, e)
		}
		if got, e := assay.Run(p, 0, 1, []int{7}, 8, ask); e != api.OK || !sameOutcome(got, ended(api.Fuel, 8)) {
			t.Errorf("fuel 8: %v, %d", got, e)
		}
		if got, e := assay.Run(p, 0, 1, []int{7}, 9, ask); e != api.OK || !sameOutcome(got, done(7, 9)) {
			t.Errorf("fuel 9: %v, %d", got, e)
		}
	}
	p.Classes[0].Methods[0].Code = ins(api.LOAD, 0, 0, api.RET, 0, 0)
	if got, e := assay.Run(p, 0, 0, nil, 100, true); e != api.OK || !sameOutcome(got, ended(api.Fault, 1)) {
		t.Errorf("LOAD 0, RET: %v, %d", got, e)
	}
}

// runCase is code for launch, what its method gives, its stack, and how its run
// ends.
type runCase struct {
	name  string
	ret   api.Type
	stack int
	code  []api.Ins
	want  api.Outcome
}

func askRuns(t *testing.T, cases []runCase) {
	t.Helper()
	for _, c := range cases {
		comesTo(t, c.name, launch(c.ret, c.stack, c.code), 1000, c.want)
	}
}

// P7: what instructions do to locals and the stack.
func TestRunMoves(t *testing.T) {
	askRuns(t, []runCase{
		{"NUM", 0, 1, ins(api.NUM, -5, 0, api.RET, 0, 0), done(-5, 2)},
		{"NUM, the least", 0, 1, ins(api.NUM, math.MinInt, 0, api.RET, 0, 0), done(math.MinInt, 2)},
		{"NUM, the greatest", 0, 1, ins(api.NUM, math.MaxInt, 0, api.RET, 0, 0), done(math.MaxInt, 2)},
		{"LOAD this", 3, 1, ins(api.LOAD, 0, 0, api.RET, 0, 0), done(launchClass, 2)},
		{"LOAD the first argument", 0, 1, ins(api.LOAD, 1, 0, api.RET, 0, 0), done(7, 2)},
		{"LOAD the second argument", 0, 1, ins(api.LOAD, 2, 0, api.RET, 0, 0), done(-2, 2)},
		{"STORE", 0, 1, ins(api.NUM, 3, 0, api.STORE, 4, 0, api.LOAD, 4, 0, api.RET, 0, 0), done(3, 4)},
		{"STORE over this", 0, 1, ins(api.NUM, 3, 0, api.STORE, 0, 0, api.LOAD, 0, 0, api.RET, 0, 0), done(3, 4)},
		{"STORE in one local alone", 0, 1, ins(api.NUM, 3, 0, api.STORE, 1, 0, api.LOAD, 2, 0, api.RET, 0, 0), done(-2, 4)},
		{"STORE takes the top", 0, 2, ins(api.NUM, 3, 0, api.NUM, 4, 0, api.STORE, 1, 0, api.RET, 0, 0), done(3, 4)},
		{"POP", 0, 2, ins(api.NUM, 3, 0, api.NUM, 4, 0, api.POP, 0, 0, api.RET, 0, 0), done(3, 4)},
		{"DUP", 0, 2, ins(api.NUM, 3, 0, api.DUP, 0, 0, api.PRINT, 0, 0, api.RET, 0, 0), done(3, 4, 3)},
		{"SWAP", 0, 2, ins(api.NUM, 3, 0, api.NUM, 4, 0, api.SWAP, 0, 0, api.PRINT, 0, 0, api.RET, 0, 0), done(4, 5, 3)},
		{"SWAP of two kinds", 3, 2, ins(api.NEW, 2, 0, api.NUM, 4, 0, api.SWAP, 0, 0, api.STORE, 3, 0, api.PRINT, 0, 0, api.LOAD, 3, 0, api.RET, 0, 0), done(2, 7, 4)},
		{"NULL", 8, 1, ins(api.NULL, 0, 0, api.RET, 0, 0), done(-1, 2)},
		{"PRINT", 0, 1, ins(api.NUM, 3, 0, api.PRINT, 0, 0, api.LOAD, 2, 0, api.PRINT, 0, 0, api.NUM, 3, 0, api.PRINT, 0, 0, api.NUM, 1, 0, api.RET, 0, 0), done(1, 8, 3, -2, 3)},
		{"RET leaves more behind", 0, 3, ins(api.NUM, 1, 0, api.NUM, 2, 0, api.NULL, 0, 0, api.STORE, 3, 0, api.RET, 0, 0), done(2, 5)},
	})
}

// P7: arithmetic.
func TestRunArithmetic(t *testing.T) {
	least, most := math.MinInt, math.MaxInt
	for _, c := range []struct{ op, x, y, want int }{
		{api.ADD, 3, 4, 7}, {api.ADD, 3, -4, -1}, {api.ADD, most, 1, least}, {api.ADD, least, -1, most}, {api.ADD, least, least, 0},
		{api.SUB, 3, 4, -1}, {api.SUB, 4, 3, 1}, {api.SUB, least, 1, most}, {api.SUB, most, -1, least}, {api.SUB, 0, least, least},
		{api.MUL, 3, 4, 12}, {api.MUL, -3, 4, -12}, {api.MUL, 1 << 32, 1 << 32, 0}, {api.MUL, most, 2, -2}, {api.MUL, least, -1, least}, {api.MUL, 1<<32 + 1, 1<<32 + 1, 1<<33 + 1},
		{api.DIV, 7, 2, 3}, {api.DIV, -7, 2, -3}, {api.DIV, 7, -2, -3}, {api.DIV, -7, -2, 3}, {api.DIV, 2, 7, 0}, {api.DIV, -2, 7, 0}, {api.DIV, 0, 5, 0},
		{api.DIV, least, -1, least}, {api.DIV, least, 1, least}, {api.DIV, most, -1, -most}, {api.DIV, least, most, -1}, {api.DIV, most, least, 0},
	} {
		askRuns(t, []runCase{{"x op y", 0, 2, ins(api.NUM, c.x, 0, api.NUM, c.y, 0, c.op, 0, 0, api.RET, 0, 0), done(c.want, 4)}})
	}
	for _, x := range []int{0, 1, -1, least, most} {
		askRuns(t, []runCase{{"x by 0", 0, 2, ins(api.NUM, 9, 0, api.PRINT, 0, 0, api.NUM, x, 0, api.NUM, 0, 0, api.DIV, 0, 0, api.RET, 0, 0), ended(api.Zero, 4, 9)}})
	}
}

// P7: where code goes on.
func TestRunJumps(t *testing.T) {
	two := func(i ...api.Ins) []api.Ins { // tells 3, or 4 if it jumped
		i = append(i, api.Ins{Op: api.GOTO, A: len(i) + 3})
		return append(i, ins(api.NUM, 4, 0, api.RET, 0, 0, api.NUM, 3, 0, api.RET, 0, 0)...)
	}
	askRuns(t, []runCase{
		{"GOTO", 0, 1, ins(api.GOTO, 2, 0, api.GOTO, 3, 0, api.GOTO, 1, 0, api.NUM, 5, 0, api.RET, 0, 0), done(5, 5)},
		{"GOTO itself", 0, 1, ins(api.GOTO, 0, 0), ended(api.Fuel, 1000)},
		{"IFZERO of 0", 0, 1, two(ins(api.NUM, 0, 0, api.IFZERO, 3, 0)...), done(4, 4)},
		{"IFZERO of 1", 0, 1, two(ins(api.NUM, 1, 0, api.IFZERO, 3, 0)...), done(3, 5)},
		{"IFZERO of -1", 0, 1, two(ins(api.NUM, -1, 0, api.IFZERO, 3, 0)...), done(3, 5)},
		{"IFZERO of a great number", 0, 1, two(ins(api.NUM, 1<<32, 0, api.IFZERO, 3, 0)...), done(3, 5)},
		{"IFNULL of null", 0, 1, two(ins(api.NULL, 0, 0, api.IFNULL, 3, 0)...), done(4, 4)},
		{"IFNULL of this", 0, 1, two(ins(api.LOAD, 0, 0, api.IFNULL, 3, 0)...), done(3, 5)},
		{"IFNULL of a new object", 0, 1, two(ins(api.NEW, 2, 0, api.IFNULL, 3, 0)...), done(3, 5)},
		{"IFZERO of what is behind it", 0, 1, ins(api.NUM, 0, 0, api.IFZERO, 2, 0, api.NUM, 8, 0, api.RET, 0, 0), done(8, 4)},
		{"down to 0", 0, 2, ins(api.LOAD, 1, 0, api.PRINT, 0, 0, api.LOAD, 1, 0, api.NUM, 1, 0, api.SUB, 0, 0, api.DUP, 0, 0, api.STORE, 1, 0, api.IFZERO, 9, 0, api.GOTO, 0, 0, api.LOAD, 1, 0, api.RET, 0, 0),
			done(0, 7*9-1+2, 7, 6, 5, 4, 3, 2, 1)},
	})
}

// P7: objects and their fields.
func TestRunObjects(t *testing.T) {
	askRuns(t, []runCase{
		{"NEW", 3, 1, ins(api.NEW, 5, 0, api.RET, 0, 0), done(5, 2)},
		{"NEW class 0", 3, 1, ins(api.NEW, 0, 0, api.RET, 0, 0), done(0, 2)},
		{"a field of this, at first", 0, 1, ins(api.LOAD, 0, 0, api.GET, 0, 0, api.RET, 0, 0), done(0, 3)},
		{"an object's field, at first", 4, 1, ins(api.LOAD, 0, 0, api.GET, 0, 1, api.RET, 0, 0), done(-1, 3)},
		{"the parent's field, at first", 6, 1, ins(api.NEW, 5, 0, api.GET, 5, 2, api.RET, 0, 0), done(-1, 3)},
		{"the last field, at first", 0, 1, ins(api.NEW, 5, 0, api.GET, 3, 3, api.RET, 0, 0), done(0, 3)},
		{"PUT and GET", 0, 2, ins(api.LOAD, 0, 0, api.NUM, 9, 0, api.PUT, 0, 0, api.LOAD, 0, 0, api.GET, 0, 0, api.RET, 0, 0), done(9, 6)},
		{"PUT by a class below", 0, 2, ins(api.NEW, 5, 0, api.DUP, 0, 0, api.STORE, 3, 0, api.NUM, 9, 0, api.PUT, 5, 0, api.LOAD, 3, 0, api.GET, 0, 0, api.RET, 0, 0), done(9, 8)},
		{"PUT in one field alone", 0, 2, ins(api.NEW, 5, 0, api.DUP, 0, 0, api.STORE, 3, 0, api.NUM, 9, 0, api.PUT, 3, 3, api.LOAD, 3, 0, api.GET, 0, 0, api.RET, 0, 0), done(0, 8)},
		{"PUT in one object alone", 0, 2, ins(api.NEW, 5, 0, api.STORE, 3, 0, api.NEW, 5, 0, api.NUM, 9, 0, api.PUT, 3, 3, api.LOAD, 3, 0, api.GET, 3, 3, api.RET, 0, 0), done(0, 8)},
		{"one object in two locals", 0, 2, ins(api.NEW, 5, 0, api.DUP, 0, 0, api.STORE, 3, 0, api.STORE, 4, 0, api.LOAD, 3, 0, api.NUM, 9, 0, api.PUT, 3, 3, api.LOAD, 4, 0, api.GET, 3, 3, api.RET, 0, 0), done(9, 10)},
		{"an object in its own field", 3, 3, ins(api.NEW, 4, 0, api.DUP, 0, 0, api.DUP, 0, 0, api.PUT, 0, 1, api.GET, 0, 1, api.GET, 0, 1, api.RET, 0, 0), done(4, 7)},
		{"null in a field", 3, 3, ins(api.NEW, 4, 0, api.DUP, 0, 0, api.STORE, 3, 0, api.DUP, 0, 0, api.DUP, 0, 0, api.PUT, 0, 1, api.NULL, 0, 0, api.PUT, 0, 1, api.LOAD, 3, 0, api.GET, 0, 1, api.RET, 0, 0), done(-1, 11)},
		{"CAST to its class", 6, 1, ins(api.LOAD, 0, 0, api.CAST, launchClass, 0, api.RET, 0, 0), done(launchClass, 3)},
		{"CAST to one above", 3, 1, ins(api.NEW, 5, 0, api.CAST, 0, 0, api.CAST, 1, 0, api.CAST, 3, 0, api.RET, 0, 0), done(5, 5)},
		{"CAST of null", 8, 1, ins(api.NULL, 0, 0, api.CAST, 5, 0, api.RET, 0, 0), done(-1, 3)},
		{"CAST to one below", 3, 1, ins(api.NUM, 4, 0, api.PRINT, 0, 0, api.NEW, 3, 0, api.CAST, 5, 0, api.RET, 0, 0), ended(api.Cast, 3, 4)},
		{"CAST to one beside", 3, 1, ins(api.NEW, 3, 0, api.CAST, 4, 0, api.RET, 0, 0), ended(api.Cast, 1)},
		{"GET of null", 0, 1, ins(api.NUM, 4, 0, api.PRINT, 0, 0, api.NULL, 0, 0, api.GET, 0, 0, api.RET, 0, 0), ended(api.NullEnd, 3, 4)},
		{"PUT to null", 0, 2, ins(api.NULL, 0, 0, api.NUM, 4, 0, api.PUT, 0, 0, api.NUM, 0, 0, api.RET, 0, 0), ended(api.NullEnd, 2)},
		{"PUT of null to null", 0, 2, ins(api.NULL, 0, 0, api.NULL, 0, 0, api.PUT, 0, 1, api.NUM, 0, 0, api.RET, 0, 0), ended(api.NullEnd, 2)},
	})
}

// P7: methods that are called: by the object's own class, with a stack and
// locals of their own.
func TestRunCalls(t *testing.T) {
	askRuns(t, []runCase{
		{"its own", 0, 1, ins(api.NEW, 4, 0, api.CALL, 1, 1, api.RET, 0, 0), done(40, 5)},
		{"that of a class below", 0, 1, ins(api.NEW, 5, 0, api.CALL, 1, 1, api.RET, 0, 0), done(50, 5)},
		{"inherited", 0, 1, ins(api.NEW, 3, 0, api.CALL, 3, 1, api.RET, 0, 0), done(0, 5)},
		{"two behind each other", 0, 1, ins(api.NEW, 5, 0, api.CALL, 1, 1, api.PRINT, 0, 0, api.NEW, 4, 0, api.CALL, 1, 1, api.RET, 0, 0), done(40, 10, 50)},
		{"three arguments", 4, 4, ins(api.NEW, 5, 0, api.NUM, 1, 0, api.NULL, 0, 0, api.NULL, 0, 0, api.CALL, 0, 0, api.RET, 0, 0), done(5, 8)},
		{"what it tells is null", 4, 4, ins(api.NEW, 4, 0, api.NUM, 1, 0, api.NULL, 0, 0, api.NULL, 0, 0, api.CALL, 0, 0, api.RET, 0, 0), done(-1, 8)},
		{"what was below stays", 0, 2, ins(api.NUM, 9, 0, api.NEW, 4, 0, api.CALL, 1, 1, api.SUB, 0, 0, api.RET, 0, 0), done(9-40, 7)},
		{"null as the object", 0, 1, ins(api.NUM, 9, 0, api.PRINT, 0, 0, api.NULL, 0, 0, api.CALL, 1, 1, api.RET, 0, 0), ended(api.NullEnd, 3, 9)},
		{"null beside arguments", 4, 4, ins(api.NULL, 0, 0, api.NUM, 1, 0, api.NULL, 0, 0, api.NULL, 0, 0, api.CALL, 0, 0, api.RET, 0, 0), ended(api.NullEnd, 4)},
		{"again and again", 0, 1, ins(api.LOAD, 0, 0, api.CALL, 0, 5, api.RET, 0, 0), ended(api.Deep, 59)},
	})
}

// P7: arguments come in order, and what becomes of locals and of the stack in
// one method is not seen in another one.
func TestRunArguments(t *testing.T) {
	caller := method(0, 0, 0, 0)
	caller.Stack = 4
	caller.Code = ins(api.LOAD, 0, 0, api.NUM, 100, 0, api.NUM, 20, 0, api.NUM, 3, 0, api.CALL, 0, 1,
		api.PRINT, 0, 0, api.LOAD, 1, 0, api.PRINT, 0, 0, api.LOAD, 2, 0, api.RET, 0, 0)
	called := method(1, 0, 0, 0, 0)
	called.Stack = 2
	called.Code = ins(api.LOAD, 1, 0, api.LOAD, 2, 0, api.SUB, 0, 0, api.LOAD, 3, 0, api.SUB, 0, 0,
		api.NUM, 5, 0, api.STORE, 1, 0, api.NUM, 6, 0, api.STORE, 2, 0, api.NULL, 0, 0, api.STORE, 0, 0,
		api.NUM, 8, 0, api.SWAP, 0, 0, api.RET, 0, 0)
	p := api.Program{Classes: []api.Class{{Super: -1, Methods: []api.Method{caller, called}}}}
	for _, ask := range []bool{true, false} {
		if got, e := assay.Run(p, 0, 0, launchArgs(), 100, ask); e != api.OK || !sameOutcome(got, done(-2, 10+14, 77, 7)) {
			t.Errorf("%v, %d", got, e)
		}
	}
}

// P7: what Value says of what a method told.
func TestRunValues(t *testing.T) {
	for c := range 6 {
		askRuns(t, []runCase{{"an object", 3, 1, ins(api.NEW, c, 0, api.RET, 0, 0), done(c, 2)}})
		askRuns(t, []runCase{{"null", ofClass(c), 1, ins(api.NULL, 0, 0, api.RET, 0, 0), done(-1, 2)}})
		comesToOf(t, c)
	}
	for _, n := range []int{0, 1, -1, 3, math.MinInt, math.MaxInt} {
		askRuns(t, []runCase{{"a number", 0, 1, ins(api.NUM, n, 0, api.RET, 0, 0), done(n, 2)}})
	}
}

// comesToOf asks that the object that is made is of the class that is asked for.
func comesToOf(t *testing.T, class int) {
	t.Helper()
	p := launch(3, 1, ins(api.LOAD, 0, 0, api.RET, 0, 0))
	for _, ask := range []bool{true, false} {
		if got, e := assay.Run(p, class, launchSlot, launchArgs(), 10, ask); e != api.OK || !sameOutcome(got, done(class, 2)) {
			t.Errorf("this of class %d: %v, %d", class, got, e)
		}
	}
}

// P2: what Run is given is as it was; Printed is new memory.
func TestRunMemory(t *testing.T) {
	p := launch(0, 1, ins(api.LOAD, 1, 0, api.PRINT, 0, 0, api.LOAD, 2, 0, api.PRINT, 0, 0, api.NUM, 5, 0, api.STORE, 1, 0, api.NUM, 1, 0, api.RET, 0, 0))
	roomy(&p)
	before := whole(&p)
	args := []int{7, -2, 77, 77}
	for _, ask := range []bool{true, false} {
		run := func() api.Outcome {
			o, e := assay.Run(p, launchClass, launchSlot, args[:2], 100, ask)
			if e != api.OK || !sameOutcome(o, done(1, 8, 7, -2)) {
				t.Errorf("%v, %d", o, e)
			}
			return o
		}
		first, second := run(), run()
		first.Printed = first.Printed[:cap(first.Printed)]
		for k := range first.Printed {
			first.Printed[k] = -7
		}
		if !slices.Equal(second.Printed, []int{7, -2}) {
			t.Error("an answer has changed with another one")
		}
		run()
	}
	if !slices.Equal(args, []int{7, -2, 77, 77}) || !reflect.DeepEqual(before, whole(&p)) {
		t.Error("lists that were handed in have changed")
	}
	args[0] = 8
	if o, e := assay.Run(p, launchClass, launchSlot, args[:2], 100, false); e != api.OK || !sameOutcome(o, done(1, 8, 8, -2)) {
		t.Errorf("another argument: %v, %d", o, e)
	}
}
