package assay_test

import (
	"fmt"
	"slices"
	"testing"

	"assay/api"
)

// P3: the program that stands at all bounds is one.
func TestFull(t *testing.T) {
	answers(t, "full", full(), api.OK)
}

type classCase struct {
	name    string
	want    api.Errno
	classes []api.Class
}

func ask(t *testing.T, cases []classCase) {
	t.Helper()
	for _, c := range cases {
		answers(t, c.name, api.Program{Classes: c.classes}, c.want)
	}
}

// P3: how many classes there are, and their parents.
func TestSupers(t *testing.T) {
	chain := func(n int) []api.Class {
		var l []api.Class
		for c := range n {
			l = append(l, api.Class{Super: c - 1})
		}
		return l
	}
	ask(t, []classCase{
		{"none", api.ErrClass, nil},
		{"one", api.OK, chain(1)},
		{"six", api.OK, chain(6)},
		{"seven", api.ErrClass, chain(7)},
		{"class 0 of -2", api.ErrClass, []api.Class{{Super: -2}}},
		{"class 0 of itself", api.ErrClass, []api.Class{{Super: 0}}},
		{"class 0 of 1", api.ErrClass, []api.Class{{Super: 1}, {Super: 0}}},
		{"class 1 of none", api.ErrClass, []api.Class{{Super: -1}, {Super: -1}}},
		{"class 1 of itself", api.ErrClass, []api.Class{{Super: -1}, {Super: 1}}},
		{"class 1 of 2", api.ErrClass, []api.Class{{Super: -1}, {Super: 2}, {Super: 0}}},
		{"class 2 of 0", api.OK, []api.Class{{Super: -1}, {Super: 0}, {Super: 0}}},
		{"class 2 of 1", api.OK, []api.Class{{Super: -1}, {Super: 0}, {Super: 1}}},
		{"last of itself", api.ErrClass, append(chain(5), api.Class{Super: 5})},
		{"last of the one ahead", api.OK, append(chain(5), api.Class{Super: 4})},
	})
}

// P3: types of fields, and how many there are, the parent's included.
func TestFields(t *testing.T) {
	ints := func(n int) []api.Type { return make([]api.Type, n) }
	field := func(f ...api.Type) []api.Class { return []api.Class{{Super: -1, Fields: f}, {Super: 0}} }
	ask(t, []classCase{
		{"int", api.OK, field(api.Int)},
		{"null", api.ErrClass, field(api.Null)},
		{"top", api.ErrClass, field(api.Top)},
		{"below 0", api.ErrClass, field(-1)},
		{"the class itself", api.OK, field(ofClass(0))},
		{"a class behind it", api.OK, field(ofClass(1))},
		{"no class", api.ErrClass, field(ofClass(2))},
		{"a wrong one last", api.ErrClass, field(0, 0, 3, 4, 1)},
		{"eight", api.OK, field(ints(8)...)},
		{"nine", api.ErrClass, field(ints(9)...)},
		{"eight and none", api.OK, []api.Class{{Super: -1, Fields: ints(8)}, {Super: 0, Fields: ints(0)}}},
		{"eight and one", api.ErrClass, []api.Class{{Super: -1, Fields: ints(8)}, {Super: 0, Fields: ints(1)}}},
		{"of three, eight", api.OK, []api.Class{{Super: -1, Fields: ints(3)}, {Super: 0, Fields: ints(3)}, {Super: 1, Fields: ints(2)}}},
		{"of three, nine", api.ErrClass, []api.Class{{Super: -1, Fields: ints(3)}, {Super: 0, Fields: ints(3)}, {Super: 1, Fields: ints(3)}}},
		{"of two beside each other, eight each", api.OK, []api.Class{{Super: -1}, {Super: 0, Fields: ints(8)}, {Super: 0, Fields: ints(8)}}},
		{"a wrong one in the last class", api.ErrClass, []api.Class{{Super: -1}, {Super: 0, Fields: []api.Type{ofClass(2)}}}},
	})
}

// P3: slots and what a method is beside its Code and Frames.
func TestHeads(t *testing.T) {
	changed := func(change func(m *api.Method)) []api.Class {
		m := method(0, api.Int)
		change(&m)
		return []api.Class{{Super: -1, Methods: []api.Method{m}}, {Super: 0}}
	}
	slots := func(l ...int) []api.Class {
		var methods []api.Method
		for _, s := range l {
			methods = append(methods, method(s, api.Int))
		}
		return []api.Class{{Super: -1, Methods: methods}}
	}
	args := func(locals int, l ...api.Type) []api.Class {
		return changed(func(m *api.Method) { m.Args, m.Locals = l, locals })
	}
	ret := func(r api.Type) []api.Class { return changed(func(m *api.Method) { m.Ret = r }) }
	stack := func(n int) []api.Class { return changed(func(m *api.Method) { m.Stack = n }) }
	ask(t, []classCase{
		{"no method", api.OK, slots()},
		{"slot -1", api.ErrClass, slots(-1)},
		{"slot 0", api.OK, slots(0)},
		{"slot 5", api.OK, slots(5)},
		{"slot 6", api.ErrClass, slots(6)},
		{"six slots in any order", api.OK, slots(3, 1, 0, 5, 4, 2)},
		{"one slot twice", api.ErrClass, slots(3, 1, 3)},
		{"one slot twice at once", api.ErrClass, slots(0, 0)},
		{"seven methods", api.ErrClass, slots(0, 1, 2, 3, 4, 5, 0)},
		{"three args", api.OK, args(4, 0, 3, 4)},
		{"four args", api.ErrClass, args(8, 0, 0, 0, 0)},
		{"arg null", api.ErrClass, args(2, api.Null)},
		{"arg top", api.ErrClass, args(2, api.Top)},
		{"arg below 0", api.ErrClass, args(2, -1)},
		{"arg of no class", api.ErrClass, args(4, 0, 0, ofClass(2))},
		{"ret of a class", api.OK, ret(ofClass(1))},
		{"ret of no class", api.ErrClass, ret(ofClass(2))},
		{"ret null", api.ErrClass, ret(api.Null)},
		{"ret top", api.ErrClass, ret(api.Top)},
		{"ret below 0", api.ErrClass, ret(-1)},
		{"locals 0", api.ErrClass, args(0)},
		{"locals 1", api.OK, args(1)},
		{"locals 8", api.OK, args(8)},
		{"locals 9", api.ErrClass, args(9)},
		{"locals as args", api.ErrClass, args(3, 0, 0, 0)},
		{"locals one more than args", api.OK, args(4, 0, 0, 0)},
		{"stack -1", api.ErrClass, stack(-1)},
		{"stack 0", api.OK, stack(0)},
		{"stack 8", api.OK, stack(8)},
		{"stack 9", api.ErrClass, stack(9)},
	})
}

// P3: a method in the slot of an inherited one has its Args and Ret.
func TestOverridden(t *testing.T) {
	one, two := ofClass(0), ofClass(1)
	has := func(super int, methods ...api.Method) api.Class { return api.Class{Super: super, Methods: methods} }
	roomier := method(1, one, one, 0)
	roomier.Locals, roomier.Stack, roomier.Code = 8, 8, ins(api.NUM, 1, 0, api.POP, 0, 0, api.NULL, 0, 0, api.RET, 0, 0)
	base := has(-1, method(0, 0), method(1, one, one, 0))
	ask(t, []classCase{
		{"the same", api.OK, []api.Class{base, has(0, method(1, one, one, 0))}},
		{"other locals, stack and code", api.OK, []api.Class{base, has(0, roomier)}},
		{"another ret", api.ErrClass, []api.Class{base, has(0, method(1, 0, one, 0))}},
		{"a ret below it", api.ErrClass, []api.Class{base, has(0, method(1, two, one, 0))}},
		{"another arg", api.ErrClass, []api.Class{base, has(0, method(1, one, one, one))}},
		{"an arg below it", api.ErrClass, []api.Class{base, has(0, method(1, one, two, 0))}},
		{"one arg less", api.ErrClass, []api.Class{base, has(0, method(1, one, one))}},
		{"one arg more", api.ErrClass, []api.Class{base, has(0, method(1, one, one, 0, 0))}},
		{"args the other way round", api.ErrClass, []api.Class{base, has(0, method(1, one, 0, one))}},
		{"another slot", api.OK, []api.Class{base, has(0, method(2, two, two))}},
		{"inherited, the same", api.OK, []api.Class{base, has(0), has(1, method(1, one, one, 0))}},
		{"inherited, another ret", api.ErrClass, []api.Class{base, has(0), has(1, method(1, 0, one, 0))}},
		{"inherited, another arg", api.ErrClass, []api.Class{base, has(0), has(1, method(1, one, 0, 0))}},
		{"another in a class beside it", api.OK, []api.Class{has(-1), has(0, method(1, one)), has(0, method(1, 0, 0))}},
		{"another below a class that has it anew", api.ErrClass, []api.Class{has(-1), has(0, method(1, one)), has(0, method(1, 0, 0)), has(2, method(1, one))}},
		{"the same below a class that has it anew", api.OK, []api.Class{has(-1), has(0, method(1, one)), has(0, method(1, 0, 0)), has(2, method(1, 0, 0))}},
	})
}

// coded is a program whose class 1 has a method of three locals, a stack of
// two, and this code. Class 0 has fields 0, 1 and slot 1, class 1 the field 2
// and slot 2, class 2 (of 1) the field 3 and slot 3, class 3 (of 0) nothing.
func coded(code []api.Ins, frames ...api.Frame) api.Program {
	m := method(2, api.Int, api.Int)
	m.Locals, m.Stack, m.Code, m.Frames = 3, 2, code, frames
	return api.Program{Classes: []api.Class{
		{Super: -1, Fields: []api.Type{0, 3}, Methods: []api.Method{method(1, 0)}},
		{Super: 0, Fields: []api.Type{0}, Methods: []api.Method{m}},
		{Super: 1, Fields: []api.Type{0}, Methods: []api.Method{method(3, 0)}},
		{Super: 0},
	}}
}

type insCase struct {
	op   int
	a, b int
	want api.Errno
}

// askIns puts each instruction at the end of three.
func askIns(t *testing.T, cases []insCase) {
	t.Helper()
	for _, c := range cases {
		name := fmt.Sprintf("%d %d %d", c.op, c.a, c.b)
		answers(t, name, coded(append(ins(api.NULL, 0, 0, api.NULL, 0, 0), api.Ins{Op: c.op, A: c.a, B: c.b})), c.want)
	}
}

// P3: each Op's A and B, from both sides; what is not named is 0.
func TestInstructions(t *testing.T) {
	const ok, bad = api.OK, api.ErrCode
	for _, op := range []int{api.ADD, api.SUB, api.MUL, api.DIV, api.RET, api.POP, api.DUP, api.NULL, api.PRINT, api.SWAP} {
		askIns(t, []insCase{{op, 0, 0, ok}, {op, 1, 0, bad}, {op, -1, 0, bad}, {op, 0, 1, bad}, {op, 0, -1, bad}})
	}
	for _, op := range []int{api.LOAD, api.STORE, api.GOTO, api.IFZERO, api.IFNULL} { // three locals, three places
		askIns(t, []insCase{{op, -1, 0, bad}, {op, 0, 0, ok}, {op, 2, 0, ok}, {op, 3, 0, bad}, {op, 0, 1, bad}, {op, 0, -1, bad}})
	}
	for _, op := range []int{api.NEW, api.CAST} {
		askIns(t, []insCase{{op, -1, 0, bad}, {op, 0, 0, ok}, {op, 3, 0, ok}, {op, 4, 0, bad}, {op, 0, 1, bad}, {op, 0, -1, bad}})
	}
	askIns(t, []insCase{{api.NUM, -5, 0, ok}, {api.NUM, 0, 0, ok}, {api.NUM, 5, 0, ok}, {api.NUM, 0, 1, bad}, {api.NUM, 0, -1, bad}})
	askIns(t, []insCase{{-1, 0, 0, bad}, {21, 0, 0, bad}, {22, 0, 0, bad}})
}

// P3: a local is one of the method's, a place one of its code.
func TestPlaces(t *testing.T) {
	answers(t, "the only place", coded(ins(api.GOTO, 0, 0)), api.OK)
	answers(t, "behind it", coded(ins(api.GOTO, 1, 0)), api.ErrCode)
	long := slices.Repeat(ins(api.RET, 0, 0), 39)
	answers(t, "the last place", coded(append(long, api.Ins{Op: api.IFNULL, A: 39})), api.OK)
	answers(t, "behind it", coded(append(long, api.Ins{Op: api.IFNULL, A: 40})), api.ErrCode)
}

// P3: GET, PUT and CALL reach what a class has and what its parents have,
// neither what its children have nor what stands beside it.
func TestReach(t *testing.T) {
	const ok, bad = api.OK, api.ErrCode
	for _, op := range []int{api.GET, api.PUT} {
		askIns(t, []insCase{
			{op, 0, -1, bad}, {op, 0, 0, ok}, {op, 0, 1, ok}, {op, 0, 2, bad},
			{op, 1, -1, bad}, {op, 1, 0, ok}, {op, 1, 2, ok}, {op, 1, 3, bad},
			{op, 2, 0, ok}, {op, 2, 3, ok}, {op, 2, 4, bad},
			{op, 3, 1, ok}, {op, 3, 2, bad},
			{op, -1, 0, bad}, {op, 4, 0, bad},
		})
	}
	askIns(t, []insCase{
		{api.CALL, 0, 1, ok}, {api.CALL, 0, 2, bad}, {api.CALL, 0, 3, bad},
		{api.CALL, 1, 1, ok}, {api.CALL, 1, 2, ok}, {api.CALL, 1, 3, bad},
		{api.CALL, 2, 1, ok}, {api.CALL, 2, 2, ok}, {api.CALL, 2, 3, ok},
		{api.CALL, 3, 1, ok}, {api.CALL, 3, 2, bad},
		{api.CALL, 0, 0, bad}, {api.CALL, 0, -1, bad}, {api.CALL, 0, 6, bad},
		{api.CALL, -1, 1, bad}, {api.CALL, 4, 1, bad},
	})
}

// P3: how long code may be; a wrong instruction anywhere is found.
func TestLengthOfCode(t *testing.T) {
	ret := ins(api.RET, 0, 0)
	answers(t, "none", coded(nil), api.ErrCode)
	answers(t, "one", coded(ret), api.OK)
	answers(t, "forty", coded(slices.Repeat(ret, 40)), api.OK)
	answers(t, "forty-one", coded(slices.Repeat(ret, 41)), api.ErrCode)
	for k := range 40 {
		code := slices.Repeat(ret, 40)
		code[k].B = 1
		answers(t, fmt.Sprintf("a wrong one at %d", k), coded(code), api.ErrCode)
	}
	p := full()
	p.Classes[4].Methods[0].Code = nil
	answers(t, "none in a later class", p, api.ErrCode)
	p = full()
	p.Classes[0].Methods[5].Code = nil
	answers(t, "none in the last method", p, api.ErrCode)
}

// at is a frame of three locals.
func at(place int, stack ...api.Type) api.Frame {
	return api.Frame{At: place, Locals: []api.Type{0, 0, 0}, Stack: stack}
}

// P3: frames rise and stand at instructions.
func TestRisingFrames(t *testing.T) {
	for _, c := range []struct {
		places []int
		want   api.Errno
	}{
		{nil, api.OK}, {[]int{0}, api.OK}, {[]int{2}, api.OK}, {[]int{0, 1, 2}, api.OK}, {[]int{0, 2}, api.OK},
		{[]int{-1}, api.ErrCode}, {[]int{3}, api.ErrCode}, {[]int{0, 3}, api.ErrCode}, {[]int{-1, 0}, api.ErrCode},
		{[]int{1, 1}, api.ErrCode}, {[]int{1, 0}, api.ErrCode}, {[]int{0, 2, 1}, api.ErrCode}, {[]int{0, 1, 2, 2}, api.ErrCode}, {[]int{2, 0, 1}, api.ErrCode},
	} {
		var frames []api.Frame
		for _, place := range c.places {
			frames = append(frames, at(place))
		}
		answers(t, fmt.Sprint("frames at ", c.places), coded(slices.Repeat(ins(api.RET, 0, 0), 3), frames...), c.want)
	}
}

// P3: a frame has as many locals as the method, and no longer a stack.
func TestLengthOfFrames(t *testing.T) {
	ret := ins(api.RET, 0, 0)
	for n := range 10 {
		locals, stack := at(0), at(0)
		locals.Locals = make([]api.Type, n)
		stack.Stack = make([]api.Type, n)
		wantLocals, wantStack := api.ErrCode, api.OK
		if n == 3 {
			wantLocals = api.OK
		}
		if n > 2 {
			wantStack = api.ErrCode
		}
		answers(t, fmt.Sprint("locals ", n), coded(ret, locals), wantLocals)
		answers(t, fmt.Sprint("stack ", n), coded(ret, stack), wantStack)
	}
}

// P3: types in frames are Null, Top or declared.
func TestTypesOfFrames(t *testing.T) {
	ret := ins(api.RET, 0, 0)
	for kind, want := range map[api.Type]api.Errno{
		-1: api.ErrCode, api.Int: api.OK, api.Null: api.OK, api.Top: api.OK,
		ofClass(0): api.OK, ofClass(3): api.OK, ofClass(4): api.ErrCode,
	} {
		for k := range 3 {
			f := at(0)
			f.Locals[k] = kind
			answers(t, fmt.Sprintf("type %d in the local %d", kind, k), coded(ret, f), want)
		}
		answers(t, fmt.Sprintf("type %d at the top", kind), coded(ret, at(0, 0, kind)), want)
		answers(t, fmt.Sprintf("type %d below it", kind), coded(ret, at(0, kind, 0)), want)
		answers(t, fmt.Sprintf("type %d in the last frame", kind), coded(slices.Repeat(ret, 2), at(0), at(1, kind)), want)
	}
}

// P3: Form asks for no more than the words say: code that fits nothing is code.
func TestUnsoundIsFormed(t *testing.T) {
	answers(t, "pops nothing", coded(ins(api.POP, 0, 0)), api.OK)
	answers(t, "runs out", coded(ins(api.NUM, 1, 0)), api.OK)
	answers(t, "frames of nowhere", coded(ins(api.ADD, 0, 0), at(0, 1, 2)), api.OK)
}
