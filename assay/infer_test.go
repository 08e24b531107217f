package assay_test

import (
	"fmt"
	"math"
	"reflect"
	"slices"
	"testing"

	"assay/api"
	"assay/assay"
)

// infers asks Infer of the method in kin: for these frames, or, if there are
// none, for ErrCheck.
func infers(t *testing.T, name string, m api.Method, want ...api.Frame) {
	t.Helper()
	got, e := assay.Infer(kin(m), kinClass, kinMethod)
	if want == nil {
		if e != api.ErrCheck || len(got) != 0 {
			t.Errorf("%s: Infer: %v, %d, want ErrCheck", name, got, e)
		}
		return
	}
	if e != api.OK || !sameFrames(got, want) {
		t.Errorf("%s: Infer: %v, %d, want %v", name, got, e, want)
	}
}

// sameFrames tells whether frames say the same; empty lists and nil are one.
func sameFrames(a, b []api.Frame) bool {
	return slices.EqualFunc(a, b, func(f, g api.Frame) bool {
		return f.At == g.At && slices.Equal(f.Locals, g.Locals) && slices.Equal(f.Stack, g.Stack)
	})
}

// startWith is start, with another type in one local.
func startWith(at int, local int, kind api.Type, stack ...api.Type) api.Frame {
	return api.Frame{At: at, Locals: replaced(kinStart(), local, kind), Stack: stack}
}

// P5: code without a jump: what stands at each instruction.
func TestInferStraight(t *testing.T) {
	infers(t, "a number", coder(0, 1, ins(api.NUM, 1, 0, api.RET, 0, 0)), start(0), start(1, 0))
	infers(t, "an argument", coder(6, 1, ins(api.LOAD, 2, 0, api.RET, 0, 0)), start(0), start(1, 6))
	infers(t, "this", coder(3, 1, ins(api.LOAD, 0, 0, api.RET, 0, 0)), start(0), start(1, 4))
	infers(t, "a local", coder(0, 1, ins(api.NUM, 1, 0, api.STORE, 4, 0, api.LOAD, 4, 0, api.RET, 0, 0)),
		start(0), start(1, 0), startWith(2, 4, 0), startWith(3, 4, 0, 0))
	infers(t, "a local in which nothing was put", coder(0, 1, ins(api.LOAD, 4, 0, api.RET, 0, 0)))
	infers(t, "nothing to take", coder(0, 1, ins(api.RET, 0, 0)))
	infers(t, "no room", coder(0, 0, ins(api.NUM, 1, 0, api.RET, 0, 0)))
	infers(t, "a wrong Ret", coder(0, 1, ins(api.NULL, 0, 0, api.RET, 0, 0)))
	infers(t, "no next instruction", coder(0, 1, ins(api.NUM, 1, 0)))
	infers(t, "no next instruction behind IFZERO", coder(0, 1, ins(api.NUM, 1, 0, api.IFZERO, 0, 0)))
	infers(t, "no next instruction behind IFNULL", coder(0, 1, ins(api.NULL, 0, 0, api.IFNULL, 0, 0)))
	infers(t, "round at once, no stack", coder(0, 0, ins(api.GOTO, 0, 0)), start(0))
}

// P5: the document's example, and the same with code that is not sound.
func TestInferExample(t *testing.T) {
	p := example()
	l := []api.Type{ofClass(0)}
	want := []api.Frame{{At: 0, Locals: l}, {At: 1, Locals: l, Stack: l}, {At: 2, Locals: l, Stack: []api.Type{api.Int}}}
	if got, e := assay.Infer(p, 0, 0); e != api.OK || !sameFrames(got, want) {
		t.Errorf("Infer: %v, %d, want %v", got, e, want)
	}
	for k := range 2 {
		if e := assay.Check(p, 0, k); e != api.OK {
			t.Errorf("Check(0, %d): %d", k, e)
		}
	}
	p.Classes[0].Methods[0].Code = ins(api.LOAD, 0, 0, api.RET, 0, 0)
	got, e := assay.Infer(p, 0, 0)
	if f := assay.Check(p, 0, 0); len(got) != 0 || e != api.ErrCheck || f != api.ErrCheck {
		t.Errorf("LOAD 0, RET: Infer: %v, %d; Check: %d", got, e, f)
	}
}

// example is the document's program.
func example() api.Program {
	get := api.Method{Ret: api.Int, Locals: 1, Stack: 2, Code: ins(api.LOAD, 0, 0, api.GET, 0, 0, api.RET, 0, 0)}
	put := api.Method{Slot: 1, Args: []api.Type{api.Int}, Ret: api.Int, Locals: 2, Stack: 3,
		Code: ins(api.LOAD, 0, 0, api.LOAD, 1, 0, api.PUT, 0, 0, api.LOAD, 0, 0, api.CALL, 0, 0, api.RET, 0, 0)}
	return api.Program{Classes: []api.Class{{Super: -1, Fields: []api.Type{api.Int}, Methods: []api.Method{get, put}}}}
}

// P5: each instruction, at what can be made to stand there: Infer says what
// Check's tests say.
func TestInferFits(t *testing.T) {
	for _, c := range fitCases() {
		eachList(len(c.takes), func(taken []api.Type) {
			if slices.Contains(taken, api.Top) {
				return
			}
			sound := true
			var code []api.Ins
			var frames []api.Frame
			for k, x := range taken {
				sound = sound && slices.Contains(c.takes[k], x)
				frames = append(frames, start(k, taken[:k]...))
				code = append(code, pushing(x))
			}
			n := len(code)
			i := c.ins
			if i.Op == api.GOTO || i.Op == api.IFZERO || i.Op == api.IFNULL {
				i.A = n + 1
			}
			code = append(code, i, api.Ins{Op: api.GOTO, A: n + 1})
			frames = append(frames, start(n, taken...), start(n+1, c.leaves(taken)...))
			if !sound {
				frames = nil
			}
			infers(t, fmt.Sprintf("%v at %v", c.ins, taken), coder(0, 4, code), frames...)
		})
	}
}

// twoWays is code that puts one of two types on the stack, and comes to the
// instruction 5 with either.
func twoWays(a, b api.Type) []api.Ins {
	return []api.Ins{{Op: api.LOAD, A: 1}, {Op: api.IFZERO, A: 4}, pushing(a), {Op: api.GOTO, A: 5}, pushing(b)}
}

// P5: where two ways come together, the least type of which both are below
// stands on the stack, or in a local.
func TestInferJoins(t *testing.T) {
	for a := range api.Type(kinTypes) {
		for b := range api.Type(kinTypes) {
			if a == api.Top || b == api.Top {
				continue
			}
			name := fmt.Sprintf("%d or %d", a, b)
			both := joins(a, b)
			ways := []api.Frame{start(0), start(1, 0), start(2), start(3, a), start(4), start(5, both)}
			infers(t, name, coder(0, 1, append(twoWays(a, b), ins(api.POP, 0, 0, api.GOTO, 6, 0)...)), append(ways, start(6))...)
			// What is Top can be neither stored nor loaded.
			var stored []api.Frame
			if both != api.Top {
				stored = append(slices.Clone(ways), startWith(6, 3, both))
			}
			infers(t, name+", stored", coder(0, 1, append(twoWays(a, b), ins(api.STORE, 3, 0, api.GOTO, 6, 0)...)), stored...)
			inLocals(t, name, a, b, both)
		}
	}
}

// inLocals brings two types together in the local 3.
func inLocals(t *testing.T, name string, a, b, both api.Type) {
	t.Helper()
	code := []api.Ins{
		pushing(a), {Op: api.STORE, A: 3}, {Op: api.LOAD, A: 1}, {Op: api.IFZERO, A: 6},
		pushing(b), {Op: api.STORE, A: 3}, {Op: api.GOTO, A: 6},
	}
	want := []api.Frame{
		start(0), start(1, a), startWith(2, 3, a), startWith(3, 3, a, 0),
		startWith(4, 3, a), startWith(5, 3, a, b), startWith(6, 3, both),
	}
	infers(t, name+", in a local", coder(0, 1, code), want...)
	load := append(slices.Clone(code[:6]), ins(api.LOAD, 3, 0, api.POP, 0, 0, api.GOTO, 8, 0)...)
	if both == api.Top {
		infers(t, name+", loaded", coder(0, 1, load))
		return
	}
	infers(t, name+", loaded", coder(0, 1, load), append(want, startWith(7, 3, both, both), startWith(8, 3, both))...)
}

// P5: with Top on the stack: it may be moved about, and no more.
func TestInferTop(t *testing.T) {
	top := func(numbers ...int) []api.Ins { return append(twoWays(api.Int, api.Null), ins(numbers...)...) }
	ways := []api.Frame{start(0), start(1, 0), start(2), start(3, 0), start(4), start(5, 2)}
	infers(t, "DUP", coder(0, 2, top(api.DUP, 0, 0, api.GOTO, 6, 0)), append(slices.Clone(ways), start(6, 2, 2))...)
	infers(t, "SWAP", coder(0, 2, top(api.NUM, 0, 0, api.SWAP, 0, 0, api.GOTO, 7, 0)), append(slices.Clone(ways), start(6, 2, 0), start(7, 0, 2))...)
	for name, wrong := range map[string][]api.Ins{
		"PRINT": top(api.PRINT, 0, 0, api.GOTO, 0, 0), "IFZERO": top(api.IFZERO, 0, 0, api.GOTO, 0, 0),
		"IFNULL": top(api.IFNULL, 0, 0, api.GOTO, 0, 0), "CAST": top(api.CAST, 0, 0, api.POP, 0, 0, api.GOTO, 0, 0),
		"GET": top(api.GET, 0, 0, api.POP, 0, 0, api.GOTO, 0, 0), "RET": top(api.RET, 0, 0), "STORE": top(api.STORE, 4, 0, api.GOTO, 0, 0),
	} {
		infers(t, name, coder(0, 2, wrong))
	}
}

// P5: stacks that are not as long do not come together.
func TestInferHeights(t *testing.T) {
	number := ins(api.NUM, 0, 0, api.RET, 0, 0)
	infers(t, "one more on one way", coder(0, 3, slices.Concat(ins(api.LOAD, 1, 0, api.IFZERO, 3, 0, api.NUM, 0, 0), number)))
	infers(t, "one more at each round", coder(0, 8, ins(api.NUM, 0, 0, api.GOTO, 0, 0)))
	infers(t, "one less at each round", coder(0, 8, ins(api.NUM, 0, 0, api.POP, 0, 0, api.POP, 0, 0, api.GOTO, 1, 0)))
	infers(t, "at the beginning", coder(0, 8, ins(api.NUM, 0, 0, api.NUM, 0, 0, api.IFZERO, 0, 0, api.GOTO, 3, 0)))
}

// P5: going round, things come to be known to be less, till nothing changes.
func TestInferRounds(t *testing.T) {
	// Each round hands what is in the local 0 on, from 3 to 4, and from 4 to 0.
	around := ins(
		api.NEW, 5, 0, api.STORE, 3, 0, api.NEW, 5, 0, api.STORE, 4, 0,
		api.LOAD, 4, 0, api.STORE, 0, 0, api.LOAD, 3, 0, api.STORE, 4, 0, api.LOAD, 2, 0, api.STORE, 3, 0, api.NEW, 2, 0, api.STORE, 2, 0,
		api.GOTO, 4, 0)
	l := func(types ...api.Type) []api.Type { return types }
	infers(t, "handed on", coder(0, 1, around), []api.Frame{
		{At: 0, Locals: l(4, 0, 6, 2, 2)}, {At: 1, Locals: l(4, 0, 6, 2, 2), Stack: l(8)},
		{At: 2, Locals: l(4, 0, 6, 8, 2)}, {At: 3, Locals: l(4, 0, 6, 8, 2), Stack: l(8)},
		{At: 4, Locals: l(3, 0, 3, 3, 3)}, {At: 5, Locals: l(3, 0, 3, 3, 3), Stack: l(3)},
		{At: 6, Locals: l(3, 0, 3, 3, 3)}, {At: 7, Locals: l(3, 0, 3, 3, 3), Stack: l(3)},
		{At: 8, Locals: l(3, 0, 3, 3, 3)}, {At: 9, Locals: l(3, 0, 3, 3, 3), Stack: l(3)},
		{At: 10, Locals: l(3, 0, 3, 3, 3)}, {At: 11, Locals: l(3, 0, 3, 3, 3), Stack: l(5)},
		{At: 12, Locals: l(3, 0, 5, 3, 3)},
	}...)
	// The same, but that the local 0 is wanted as it was in the first rounds.
	wanted := slices.Concat(around[:12], ins(api.LOAD, 0, 0, api.GET, 1, 2, api.POP, 0, 0, api.GOTO, 4, 0))
	infers(t, "handed on, and wanted", coder(0, 1, wanted))
	// The local 2 is of class 3 in the first round, null in the second.
	infers(t, "null at the second round", coder(0, 1, ins(api.NULL, 0, 0, api.STORE, 2, 0, api.GOTO, 0, 0)), start(0), start(1, 1), startWith(2, 2, 1))
	infers(t, "an Int at the second round", coder(0, 1, ins(api.LOAD, 2, 0, api.POP, 0, 0, api.NUM, 0, 0, api.STORE, 2, 0, api.GOTO, 0, 0)))
	infers(t, "an Int at the second round, not loaded", coder(0, 1, ins(api.NUM, 0, 0, api.STORE, 2, 0, api.GOTO, 0, 0)),
		startWith(0, 2, 2), startWith(1, 2, 2, 0), startWith(2, 2, 0))
}

// P5: what nothing comes to has no state, and may be anything.
func TestInferNotReached(t *testing.T) {
	infers(t, "behind GOTO", coder(0, 1, ins(api.GOTO, 2, 0, api.ADD, 0, 0, api.NUM, 0, 0, api.RET, 0, 0)), start(0), start(2), start(3, 0))
	infers(t, "behind RET", coder(0, 1, ins(api.NUM, 0, 0, api.RET, 0, 0, api.ADD, 0, 0)), start(0), start(1, 0))
	infers(t, "jumps that nothing comes to", coder(0, 1, ins(api.GOTO, 3, 0, api.POP, 0, 0, api.GOTO, 1, 0, api.NUM, 0, 0, api.RET, 0, 0, api.NUM, 0, 0, api.GOTO, 3, 0)),
		start(0), start(3), start(4, 0))
	infers(t, "both ways of IFZERO", coder(0, 1, ins(api.LOAD, 1, 0, api.IFZERO, 3, 0, api.GOTO, 2, 0, api.GOTO, 3, 0)), start(0), start(1, 0), start(2), start(3))
	infers(t, "both ways of IFNULL", coder(0, 1, ins(api.LOAD, 2, 0, api.IFNULL, 3, 0, api.GOTO, 2, 0, api.GOTO, 3, 0)), start(0), start(1, 6), start(2), start(3))
}

// P5: the certificate that a method carries is nothing to Infer.
func TestInferIgnoresFrames(t *testing.T) {
	m := coder(0, 2, ins(api.NUM, 1, 0, api.RET, 0, 0, api.POP, 0, 0), start(0, 1, 2), start(1, 8), start(2))
	infers(t, "wrong frames", m, start(0), start(1, 0))
}

// P5, P6: which methods there are; Form's errors go ahead of ErrArg, and that
// ahead of ErrCheck.
func TestWhichMethod(t *testing.T) {
	p := kin(coder(0, 1, ins(api.NUM, 1, 0, api.RET, 0, 0)))
	unsound := kin(coder(0, 1, ins(api.RET, 0, 0)))
	for k := range unsound.Classes {
		for j := range unsound.Classes[k].Methods {
			unsound.Classes[k].Methods[j].Code = ins(api.RET, 0, 0)
		}
	}
	broken, coarse := copied(unsound), copied(unsound)
	broken.Classes[5].Super = 5
	coarse.Classes[3].Methods[0].Code = nil
	own := []int{1, 2, 1, 1, 0, 0}
	some := []int{math.MinInt, -1 << 32, -2, -1, 0, 1, 2, 3, 4, 5, 6, 7, 1 << 32, 1<<32 + 1, math.MaxInt}
	for _, class := range some {
		for _, number := range some {
			want := api.ErrArg
			if class >= 0 && class < len(own) && number >= 0 && number < own[class] {
				want = api.OK
			}
			asks(t, p, class, number, want)
			if want == api.OK {
				asks(t, unsound, class, number, api.ErrCheck)
			} else {
				asks(t, unsound, class, number, api.ErrArg)
			}
			asks(t, broken, class, number, api.ErrClass)
			asks(t, coarse, class, number, api.ErrCode)
		}
	}
}

func asks(t *testing.T, p api.Program, class, number int, want api.Errno) {
	t.Helper()
	frames, e := assay.Infer(p, class, number)
	if e != want || (len(frames) == 0) != (want != api.OK) {
		t.Errorf("Infer(%d, %d): %v, %d, want %d", class, number, frames, e, want)
	}
	if e := assay.Check(p, class, number); e != want {
		t.Errorf("Check(%d, %d): %d, want %d", class, number, e, want)
	}
}

// P5, P6: a method at all bounds: eight locals, a stack of eight, forty
// instructions, the last of them a place.
func TestAtBounds(t *testing.T) {
	var code []api.Ins
	for k := range api.MaxLocals {
		code = append(code, ins(api.NUM, 7, 0, api.STORE, k, 0)...)
	}
	code = append(code, slices.Repeat(ins(api.NUM, 7, 0), api.MaxStack)...)
	code = append(code, slices.Repeat(ins(api.POP, 0, 0), api.MaxStack)...)
	code = append(code, ins(api.LOAD, 7, 0, api.IFZERO, 39, 0, api.GOTO, 39, 0)...)
	code = append(code, slices.Repeat(ins(api.ADD, 0, 0), 4)...)
	code = append(code, api.Ins{Op: api.GOTO, A: 39})
	m := api.Method{Ret: api.Int, Locals: api.MaxLocals, Stack: api.MaxStack, Code: code}
	frames, e := assay.Infer(kin(m), kinClass, kinMethod)
	if e != api.OK || len(frames) != 36 || len(frames[24].Stack) != 8 || frames[35].At != 39 || !slices.Equal(frames[35].Locals, make([]api.Type, 8)) {
		t.Fatalf("Infer: %v, %d", frames, e)
	}
	certified(t, "at bounds", m, frames[35])
	checks(t, "at bounds, no frame at the place", m, api.ErrCheck)
	m.Frames = frames
	checks(t, "at bounds, all frames", m, api.OK)
	m.Stack--
	m.Frames = frames[35:]
	infers(t, "one type too many", m)
	checks(t, "one type too many", m, api.ErrCheck)
	m.Stack++
	m.Code[39] = api.Ins{Op: api.NUM}
	infers(t, "the last one goes on", m)
	checks(t, "the last one goes on", m, api.ErrCheck)
}

// P5: this is of the class that has the method.
func TestInferThis(t *testing.T) {
	p := kin(coder(0, 1, ins(api.NUM, 1, 0, api.RET, 0, 0)))
	for class, want := range map[int]api.Type{0: 3, 1: 4, 2: 5, 3: 6} {
		if frames, e := assay.Infer(p, class, 0); e != api.OK || frames[0].Locals[0] != want {
			t.Errorf("Infer(%d, 0): %v, %d", class, frames, e)
		}
	}
}

// certified asks Certify for the program with these frames in kin's method.
func certified(t *testing.T, name string, m api.Method, want ...api.Frame) {
	t.Helper()
	p := kin(m)
	got, e := assay.Certify(p)
	p.Classes[kinClass].Methods[kinMethod].Frames = want
	if e != api.OK || !same(got, p) {
		t.Errorf("%s: Certify: %v, %d, want %v", name, numbers(got), e, numbers(p))
		return
	}
	if again, e := assay.Certify(got); e != api.OK || !same(again, got) {
		t.Errorf("%s: Certify again: %v, %d, want %v", name, numbers(again), e, numbers(got))
	}
	for c, class := range got.Classes {
		for k := range class.Methods {
			if e := assay.Check(got, c, k); e != api.OK {
				t.Errorf("%s: Check(%d, %d) of what Certify gives: %d", name, c, k, e)
			}
		}
	}
}

// P5: the frames are those of places of instructions that have a state.
func TestCertify(t *testing.T) {
	jumps := ins(api.LOAD, 2, 0, api.IFNULL, 4, 0, api.LOAD, 1, 0, api.IFZERO, 5, 0, api.GOTO, 0, 0, api.NUM, 0, 0, api.RET, 0, 0)
	certified(t, "none", coder(0, 1, ins(api.NUM, 1, 0, api.RET, 0, 0)))
	certified(t, "all three", coder(0, 1, jumps), start(0), start(4), start(5))
	certified(t, "other frames are there", coder(0, 1, jumps, start(1, 0), start(3, 2), start(6)), start(0), start(4), start(5))
	certified(t, "frames, and none are needed", coder(0, 1, ins(api.NUM, 1, 0, api.RET, 0, 0), start(0), start(1, 0)))
	certified(t, "two ways", coder(3, 1, append(twoWays(7, 8), api.Ins{Op: api.RET})), start(4), start(5, 4))
	certified(t, "a jump that nothing comes to", coder(0, 1, ins(api.GOTO, 2, 0, api.GOTO, 3, 0, api.NUM, 0, 0, api.RET, 0, 0)), start(2))
	certified(t, "a NUM whose A were a place", coder(0, 1, ins(api.NUM, 1, 0, api.RET, 0, 0)))
	certified(t, "others whose A were a place", coder(0, 2, ins(api.LOAD, 2, 0, api.CAST, 3, 0, api.STORE, 4, 0, api.NEW, 5, 0, api.POP, 0, 0, api.NUM, 0, 0, api.RET, 0, 0)))
	certified(t, "the last instruction is a place", coder(0, 1, ins(api.GOTO, 1, 0, api.GOTO, 1, 0)), start(1))
}

// P5: one method that is not sound, wherever it is, and there is nothing.
func TestCertifyUnsound(t *testing.T) {
	sound := kin(coder(0, 1, ins(api.NUM, 1, 0, api.RET, 0, 0)))
	for c, class := range sound.Classes {
		for k := range class.Methods {
			p := copied(sound)
			p.Classes[c].Methods[k].Code = ins(api.POP, 0, 0, api.GOTO, 0, 0)
			if got, e := assay.Certify(p); e != api.ErrCheck || !reflect.DeepEqual(got, api.Program{}) {
				t.Errorf("method %d of class %d: Certify: %v, %d", k, c, numbers(got), e)
			}
			p.Classes[5].Methods = []api.Method{{Slot: 7}}
			if got, e := assay.Certify(p); e != api.ErrClass || !reflect.DeepEqual(got, api.Program{}) {
				t.Errorf("method %d of class %d, and a wrong slot: Certify: %v, %d", k, c, numbers(got), e)
			}
		}
	}
}
