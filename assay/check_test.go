package assay_test

import (
	"fmt"
	"slices"
	"testing"

	"assay/api"
	"assay/assay"
)

// checks asks Check of the method in kin.
func checks(t *testing.T, name string, m api.Method, want api.Errno) {
	t.Helper()
	if e := assay.Check(kin(m), kinClass, kinMethod); e != want {
		t.Errorf("%s: Check: %d, want %d", name, e, want)
	}
}

// fitCase is what an instruction takes, as the types that may stand there, the
// top last, and what it leaves of those.
type fitCase struct {
	ins    api.Ins
	takes  [][]api.Type
	leaves func(taken []api.Type) []api.Type
}

func leaving(types ...api.Type) func([]api.Type) []api.Type {
	return func([]api.Type) []api.Type { return types }
}

func objects() []api.Type { return []api.Type{1, 3, 4, 5, 6, 7, 8} }

// fitCases has all instructions but LOAD, STORE and RET. Their places are 3.
func fitCases() []fitCase {
	takes := func(l ...[]api.Type) [][]api.Type { return l }
	number, anything := below(api.Int), below(api.Top)
	return []fitCase{
		{api.Ins{Op: api.NUM, A: -5}, nil, leaving(0)},
		{api.Ins{Op: api.ADD}, takes(number, number), leaving(0)},
		{api.Ins{Op: api.SUB}, takes(number, number), leaving(0)},
		{api.Ins{Op: api.MUL}, takes(number, number), leaving(0)},
		{api.Ins{Op: api.DIV}, takes(number, number), leaving(0)},
		{api.Ins{Op: api.GOTO, A: 3}, nil, leaving()},
		{api.Ins{Op: api.IFZERO, A: 3}, takes(number), leaving()},
		{api.Ins{Op: api.NEW, A: 0}, nil, leaving(3)},
		{api.Ins{Op: api.NEW, A: 5}, nil, leaving(8)},
		{api.Ins{Op: api.GET, A: 0, B: 0}, takes(below(3)), leaving(0)},
		{api.Ins{Op: api.GET, A: 0, B: 1}, takes(below(3)), leaving(4)},
		{api.Ins{Op: api.GET, A: 2, B: 1}, takes(below(5)), leaving(4)},
		{api.Ins{Op: api.GET, A: 1, B: 2}, takes(below(4)), leaving(6)},
		{api.Ins{Op: api.GET, A: 5, B: 2}, takes(below(8)), leaving(6)},
		{api.Ins{Op: api.GET, A: 3, B: 3}, takes(below(6)), leaving(0)},
		{api.Ins{Op: api.PUT, A: 0, B: 0}, takes(below(3), number), leaving()},
		{api.Ins{Op: api.PUT, A: 4, B: 1}, takes(below(7), below(4)), leaving()},
		{api.Ins{Op: api.PUT, A: 1, B: 2}, takes(below(4), below(6)), leaving()},
		{api.Ins{Op: api.PUT, A: 3, B: 3}, takes(below(6), number), leaving()},
		{api.Ins{Op: api.CALL, A: 0, B: 0}, takes(below(3), number, below(4), below(6)), leaving(4)},
		{api.Ins{Op: api.CALL, A: 3, B: 0}, takes(below(6), number, below(4), below(6)), leaving(4)},
		{api.Ins{Op: api.CALL, A: 1, B: 1}, takes(below(4)), leaving(0)},
		{api.Ins{Op: api.CALL, A: 4, B: 1}, takes(below(7)), leaving(0)},
		{api.Ins{Op: api.CALL, A: 2, B: 3}, takes(below(5), below(5)), leaving(0)},
		{api.Ins{Op: api.POP}, takes(anything), leaving()},
		{api.Ins{Op: api.DUP}, takes(anything), func(x []api.Type) []api.Type { return []api.Type{x[0], x[0]} }},
		{api.Ins{Op: api.NULL}, nil, leaving(1)},
		{api.Ins{Op: api.CAST, A: 0}, takes(objects()), leaving(3)},
		{api.Ins{Op: api.CAST, A: 4}, takes(objects()), leaving(7)},
		{api.Ins{Op: api.IFNULL, A: 3}, takes(objects()), leaving()},
		{api.Ins{Op: api.PRINT}, takes(number), leaving()},
		{api.Ins{Op: api.SWAP}, takes(anything, anything), func(x []api.Type) []api.Type { return []api.Type{x[1], x[0]} }},
	}
}

// between is a method in which nothing comes to the instruction at 2, but a
// frame says what stands there, and another one what stands behind it.
func between(i api.Ins, stack int, ahead, behind api.Frame) api.Method {
	ahead.At, behind.At = 2, 3
	code := slices.Concat(ins(api.GOTO, 0, 0, api.GOTO, 0, 0), []api.Ins{i}, ins(api.GOTO, 3, 0))
	return coder(ofClass(0), stack, code, start(0), ahead, behind)
}

// eachList calls do with each list of so many types.
func eachList(length int, do func(types []api.Type)) {
	if length == 0 {
		do(nil)
		return
	}
	eachList(length-1, func(types []api.Type) {
		for t := range api.Type(kinTypes) {
			do(append(slices.Clip(types), t))
		}
	})
}

// P6: each instruction, at all types that may stand there.
func TestFits(t *testing.T) {
	locals := []api.Type{0, 1, 2, 5, 8}
	under := []api.Type{7}
	for _, c := range fitCases() {
		eachList(len(c.takes), func(taken []api.Type) {
			want := api.OK
			for k, x := range taken {
				if !slices.Contains(c.takes[k], x) {
					want = api.ErrCheck
				}
			}
			name := fmt.Sprintf("%v at %v", c.ins, taken)
			left := slices.Concat(under, c.leaves(taken))
			checks(t, name, between(c.ins, 5, api.Frame{Locals: locals, Stack: slices.Concat(under, taken)}, api.Frame{Locals: locals, Stack: left}), want)
		})
	}
}

// P6: each instruction leaves just these types, neither less nor more: a frame
// behind it may say what they are below, and nothing else.
func TestLeaves(t *testing.T) {
	locals := []api.Type{0, 1, 2, 5, 8}
	under := []api.Type{2, 0}
	for _, c := range fitCases() {
		var taken []api.Type
		for _, allowed := range c.takes {
			taken = append(taken, allowed[len(allowed)-1])
		}
		ahead := api.Frame{Locals: locals, Stack: slices.Concat(under, taken)}
		leaves(t, fmt.Sprintf("%v at %v", c.ins, taken), c.ins, ahead, api.Frame{Locals: locals, Stack: slices.Concat(under, c.leaves(taken))})
	}
}

// leaves holds what an instruction leaves against all frames that differ from
// it in one type, or in one type more or less.
func leaves(t *testing.T, name string, i api.Ins, ahead, left api.Frame) {
	t.Helper()
	checks(t, name, between(i, 8, ahead, left), api.OK)
	differs := func(was api.Type, list []api.Type, k int, frame func(l []api.Type) api.Frame) {
		for other := range api.Type(kinTypes) {
			want := api.ErrCheck
			if isBelow(was, other) {
				want = api.OK
			}
			f := frame(replaced(list, k, other))
			checks(t, fmt.Sprintf("%s, behind it %v", name, f), between(i, 8, ahead, f), want)
		}
	}
	for k, was := range left.Locals {
		differs(was, left.Locals, k, func(l []api.Type) api.Frame { return api.Frame{Locals: l, Stack: left.Stack} })
	}
	for k, was := range left.Stack {
		differs(was, left.Stack, k, func(l []api.Type) api.Frame { return api.Frame{Locals: left.Locals, Stack: l} })
	}
	more, less := left, left
	more.Stack = append(slices.Clip(left.Stack), api.Top)
	less.Stack = left.Stack[1:]
	checks(t, name+", one more", between(i, 8, ahead, more), api.ErrCheck)
	checks(t, name+", one less", between(i, 8, ahead, less), api.ErrCheck)
}

// P6: LOAD and STORE, of all types and locals; neither takes Top.
func TestLocals(t *testing.T) {
	locals := []api.Type{0, 1, 2, 5, 8}
	for k, kind := range locals {
		load := api.Ins{Op: api.LOAD, A: k}
		ahead := api.Frame{Locals: locals, Stack: []api.Type{4}}
		behind := api.Frame{Locals: locals, Stack: []api.Type{4, kind}}
		if kind == api.Top {
			checks(t, "LOAD of Top", between(load, 5, ahead, behind), api.ErrCheck)
		} else {
			leaves(t, fmt.Sprint("LOAD ", k), load, ahead, behind)
		}
		store := api.Ins{Op: api.STORE, A: k}
		for stored := range api.Type(kinTypes) {
			ahead := api.Frame{Locals: locals, Stack: []api.Type{4, stored}}
			behind := api.Frame{Locals: replaced(locals, k, stored), Stack: []api.Type{4}}
			if stored == api.Top {
				checks(t, "STORE of Top", between(store, 5, ahead, behind), api.ErrCheck)
			} else {
				leaves(t, fmt.Sprintf("STORE %d of %d", k, stored), store, ahead, behind)
			}
		}
		checks(t, "STORE of nothing", between(store, 5, api.Frame{Locals: locals}, api.Frame{Locals: locals}), api.ErrCheck)
	}
}

// P6: RET tells what is below Ret, whatever stands beneath it.
func TestRet(t *testing.T) {
	for _, ret := range []api.Type{0, 3, 4, 5, 6, 7, 8} {
		for told := range api.Type(kinTypes) {
			for _, beneath := range [][]api.Type{nil, {2}, {0, 8, 1}} {
				f := api.Frame{At: 1, Locals: kinStart(), Stack: append(slices.Clip(beneath), told)}
				want := api.ErrCheck
				if isBelow(told, ret) {
					want = api.OK
				}
				checks(t, fmt.Sprintf("RET of %v as %d", f.Stack, ret), coder(ret, 4, ins(api.GOTO, 0, 0, api.RET, 0, 0), api.Frame{Locals: kinStart()}, f), want)
			}
		}
		checks(t, "RET of nothing", coder(ret, 4, ins(api.RET, 0, 0)), api.ErrCheck)
	}
}

// P6: all that is taken must be there, one less does not do.
func TestTakes(t *testing.T) {
	f := api.Frame{Locals: kinStart()}
	for _, c := range fitCases() {
		if len(c.takes) == 0 {
			continue
		}
		var taken []api.Type
		for _, allowed := range c.takes {
			taken = append(taken, allowed[0])
		}
		behind := f
		behind.Stack = c.leaves(taken)
		ahead := f
		ahead.Stack = taken
		checks(t, fmt.Sprintf("%v at all that it takes", c.ins), between(c.ins, 5, ahead, behind), api.OK)
		for less := 1; less <= len(taken); less++ {
			ahead.Stack = taken[less:]
			checks(t, fmt.Sprintf("%v at %v", c.ins, ahead.Stack), between(c.ins, 5, ahead, behind), api.ErrCheck)
		}
	}
}

// P6: what is left has room, up to the last type that the stack holds; what
// leaves no more than it takes needs none.
func TestRoom(t *testing.T) {
	f := api.Frame{Locals: []api.Type{0, 0, 0, 0, 0}}
	cases := append(fitCases(), fitCase{api.Ins{Op: api.LOAD}, nil, leaving(0)})
	for _, c := range cases {
		var taken []api.Type
		for _, allowed := range c.takes {
			taken = append(taken, allowed[0])
		}
		left := c.leaves(taken)
		for stack := len(taken); stack <= api.MaxStack; stack++ {
			ahead, behind := f, f
			beneath := slices.Repeat([]api.Type{api.Top}, stack-len(taken))
			ahead.Stack = slices.Concat(beneath, taken)
			behind.Stack = slices.Concat(beneath, left)
			name := fmt.Sprintf("%v at a stack of %d", c.ins, stack)
			if len(left) > len(taken) {
				behind.Stack = nil // one that held it may not be
				checks(t, name+" that is full", between(c.ins, stack, ahead, behind), api.ErrCheck)
				if stack == len(taken) {
					continue
				}
				ahead.Stack = slices.Concat(beneath[1:], taken)
				behind.Stack = slices.Concat(beneath[1:], left)
			}
			checks(t, name, between(c.ins, stack, ahead, behind), api.OK)
		}
	}
}

// start is a frame at a place with what stands at the beginning.
func start(at int, stack ...api.Type) api.Frame {
	return api.Frame{At: at, Locals: kinStart(), Stack: stack}
}

// P6: the state at hand at the beginning: local 0, Args, Top, no stack.
func TestBeginning(t *testing.T) {
	loop := ins(api.GOTO, 0, 0)
	checks(t, "as it is", coder(0, 2, loop, start(0)), api.OK)
	for k, was := range kinStart() {
		for other := range api.Type(kinTypes) {
			f := start(0)
			f.Locals[k] = other
			want := api.ErrCheck
			if isBelow(was, other) {
				want = api.OK
			}
			checks(t, fmt.Sprint("at the beginning ", f.Locals), coder(0, 2, loop, f), want)
		}
	}
	checks(t, "something on the stack", coder(0, 2, loop, start(0, api.Top)), api.ErrCheck)
}

type passCase struct {
	name   string
	want   api.Errno
	code   []api.Ins
	frames []api.Frame
}

func askPass(t *testing.T, cases []passCase) {
	t.Helper()
	for _, c := range cases {
		checks(t, c.name, coder(api.Int, 2, c.code, c.frames...), c.want)
	}
}

// P6: places have frames, those ahead as those behind, and the next state is
// below them.
func TestPlacesHaveFrames(t *testing.T) {
	const ok, bad = api.OK, api.ErrCheck
	frames := func(f ...api.Frame) []api.Frame { return f }
	zero := ins(api.LOAD, 1, 0, api.IFZERO, 3, 0, api.NUM, 1, 0, api.NUM, 2, 0, api.RET, 0, 0)
	zero[2].Op, zero[2].A = api.GOTO, 0
	null := ins(api.LOAD, 2, 0, api.IFNULL, 3, 0, api.GOTO, 0, 0, api.NUM, 2, 0, api.RET, 0, 0)
	own := ins(api.LOAD, 1, 0, api.IFZERO, 2, 0, api.NUM, 1, 0, api.RET, 0, 0)
	for name, code := range map[string][]api.Ins{"IFZERO": zero, "IFNULL": null} {
		askPass(t, []passCase{
			{name + ", both", ok, code, frames(start(0), start(3))},
			{name + ", none", bad, code, nil},
			{name + ", the one ahead alone", bad, code, frames(start(0))},
			{name + ", the one behind alone", bad, code, frames(start(3))},
			{name + ", what was taken is there", bad, code, frames(start(0), start(3, 0))},
			{name + ", elsewhere", bad, code, frames(start(0), start(2), start(4, 0))},
		})
	}
	askPass(t, []passCase{
		{"a place that is the next one, framed", ok, own, frames(start(2))},
		{"a place that is the next one, not framed", bad, own, nil},
		{"round at once, framed", ok, ins(api.GOTO, 0, 0), frames(start(0))},
		{"round at once, not framed", bad, ins(api.GOTO, 0, 0), nil},
		{"a GOTO to the next one, framed", ok, ins(api.GOTO, 1, 0, api.GOTO, 1, 0), frames(start(1))},
		{"a GOTO to the next one, not framed", bad, ins(api.GOTO, 1, 0, api.NUM, 0, 0, api.RET, 0, 0), nil},
		{"behind, with more on the stack", bad, ins(api.NUM, 1, 0, api.GOTO, 0, 0), frames(start(0))},
		{"a place that nothing comes to", ok, ins(api.NUM, 1, 0, api.RET, 0, 0, api.GOTO, 2, 0), nil},
		{"a place that nothing comes to, framed elsewhere", bad, ins(api.NUM, 1, 0, api.RET, 0, 0, api.GOTO, 4, 0, api.GOTO, 2, 0, api.GOTO, 4, 0), frames(start(3), start(4))},
	})
}

// P6: a frame is held against the state at hand, and takes its place.
func TestFrameTakesOver(t *testing.T) {
	const ok, bad = api.OK, api.ErrCheck
	with := func(at int, k int, kind api.Type) []api.Frame {
		f := start(at)
		f.Locals[k] = kind
		return []api.Frame{f}
	}
	load := func(local int) []api.Ins { return ins(api.LOAD, local, 0, api.POP, 0, 0, api.NUM, 0, 0, api.RET, 0, 0) }
	number := ins(api.LOAD, 1, 0, api.RET, 0, 0)
	stacked := func(kind api.Type) []api.Frame { return []api.Frame{start(1, kind)} }
	askPass(t, []passCase{
		{"the same", ok, load(1), with(0, 1, api.Int)},
		{"less is known, and not asked", ok, load(1), with(0, 2, api.Top)},
		{"less is known, and asked", bad, load(1), with(0, 1, api.Top)},
		{"more is told than is known", bad, load(1), with(0, 0, ofClass(3))},
		{"other things are told", bad, load(1), with(0, 1, ofClass(0))},
		{"what is Top is told to be an Int", bad, load(3), with(0, 3, api.Int)},
		{"on the stack, the same", ok, number, stacked(api.Int)},
		{"on the stack, less is known, and asked", bad, number, stacked(api.Top)},
		{"on the stack, more than there is", bad, number, []api.Frame{start(1, 0, 0)}},
		{"on the stack, less than there is", bad, number, []api.Frame{start(1)}},
		{"at the last instruction", bad, number, []api.Frame{start(1, ofClass(1))}},
		{"at each", ok, number, []api.Frame{start(0), start(1, 0)}},
	})
	for told := range api.Type(kinTypes) {
		want := bad
		if isBelow(6, told) && isBelow(told, 4) {
			want = ok
		}
		m := coder(ofClass(1), 1, ins(api.LOAD, 2, 0, api.RET, 0, 0), start(1, told))
		checks(t, fmt.Sprint("an object of class 3, told as ", told, ", as one of class 1"), m, want)
	}
}

// P6: what nothing comes to is passed over, but looked at behind a frame.
func TestPassedOver(t *testing.T) {
	const ok, bad = api.OK, api.ErrCheck
	ended := func(numbers ...int) []api.Ins {
		return slices.Concat(ins(api.NUM, 1, 0, api.RET, 0, 0), ins(numbers...))
	}
	away := func(numbers ...int) []api.Ins {
		return slices.Concat(ins(api.GOTO, 0, 0), ins(numbers...))
	}
	frames := func(f ...api.Frame) []api.Frame { return f }
	askPass(t, []passCase{
		{"behind RET", ok, ended(api.POP, 0, 0, api.ADD, 0, 0), nil},
		{"behind RET, framed", bad, ended(api.POP, 0, 0, api.GOTO, 3, 0), frames(start(2), start(3))},
		{"behind RET, framed so that it fits", ok, ended(api.POP, 0, 0, api.GOTO, 3, 0), frames(start(2, 2), start(3))},
		{"behind RET, framed one later", bad, ended(api.GOTO, 2, 0, api.POP, 0, 0), frames(start(3))},
		{"behind GOTO", ok, away(api.POP, 0, 0, api.LOAD, 4, 0), frames(start(0))},
		{"behind GOTO, framed", bad, away(api.LOAD, 4, 0, api.RET, 0, 0), frames(start(0), start(1))},
		{"a frame below the state that would have gone on", ok, ended(api.GOTO, 2, 0), frames(start(2, 8, 8))},
		{"behind IFZERO it goes on", bad, ins(api.NUM, 1, 0, api.IFZERO, 0, 0, api.POP, 0, 0, api.GOTO, 0, 0), frames(start(0))},
		{"behind IFNULL it goes on", bad, ins(api.NULL, 0, 0, api.IFNULL, 0, 0, api.POP, 0, 0, api.GOTO, 0, 0), frames(start(0))},
	})
}

// P6: the next instruction must be there.
func TestRunsOut(t *testing.T) {
	for _, c := range fitCases() {
		if len(c.takes) > 0 || c.ins.Op == api.GOTO {
			continue
		}
		checks(t, fmt.Sprintf("%v at the end", c.ins), coder(0, 2, []api.Ins{c.ins}), api.ErrCheck)
	}
	loop := []api.Frame{start(0)}
	askPass(t, []passCase{
		{"IFZERO at the end", api.ErrCheck, ins(api.NUM, 0, 0, api.IFZERO, 0, 0), loop},
		{"IFNULL at the end", api.ErrCheck, ins(api.NULL, 0, 0, api.IFNULL, 0, 0), loop},
		{"POP at the end", api.ErrCheck, ins(api.NUM, 0, 0, api.POP, 0, 0), nil},
		{"GOTO at the end", api.OK, ins(api.NUM, 0, 0, api.POP, 0, 0, api.GOTO, 0, 0), loop},
		{"what nothing comes to at the end", api.OK, ins(api.GOTO, 0, 0, api.POP, 0, 0), loop},
		{"what nothing comes to, framed, at the end", api.ErrCheck, ins(api.GOTO, 0, 0, api.POP, 0, 0), append(loop, start(1, 0))},
	})
}

// P6: Check looks at one method alone.
func TestChecksOneMethod(t *testing.T) {
	p := kin(coder(0, 1, ins(api.RET, 0, 0)))
	p.Classes[2].Methods[0].Code = ins(api.POP, 0, 0)
	for class, methods := range [][]api.Errno{{api.OK}, {api.OK, api.ErrCheck}, {api.ErrCheck}, {api.OK}, nil, nil} {
		for k, want := range methods {
			if e := assay.Check(p, class, k); e != want {
				t.Errorf("Check(%d, %d): %d, want %d", class, k, e, want)
			}
		}
	}
}
