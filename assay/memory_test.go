package assay_test

import (
	"reflect"
	"slices"
	"testing"

	"assay/api"
	"assay/assay"
)

// roomy gives every list of a program spare room, and fills that. Inner lists
// go first: the outer ones are laid anew with them.
func roomy(p *api.Program) {
	for _, l := range slices.Backward(walk(p, reflect.Slice)) {
		n := l.value.Len()
		longer := reflect.MakeSlice(l.value.Type(), n+3, n+3)
		reflect.Copy(longer, l.value)
		for k := range 3 {
			if v := longer.Index(n + k); v.CanInt() {
				v.SetInt(77)
			}
		}
		l.value.Set(longer.Slice(0, n))
	}
}

// whole is a copy of every list of a program, with what stands behind it.
func whole(p *api.Program) []any {
	var all []any
	for _, l := range walk(p, reflect.Slice) {
		wide := l.value.Slice(0, l.value.Cap())
		kept := reflect.MakeSlice(wide.Type(), wide.Len(), wide.Len())
		reflect.Copy(kept, wide)
		all = append(all, kept.Interface())
	}
	return all
}

// P2: what is handed in is as it was, with what stands behind it.
func TestHandedIn(t *testing.T) {
	for name, change := range map[string]func(p *api.Program){
		"good":      func(p *api.Program) {},
		"bad class": func(p *api.Program) { p.Classes[5].Super = 5 },
		"bad code":  func(p *api.Program) { p.Classes[0].Methods[5].Code = nil },
		"sound":     func(p *api.Program) { *p = sound() },
	} {
		p := full()
		change(&p)
		roomy(&p)
		before := whole(&p)
		askAll(p)
		if !reflect.DeepEqual(before, whole(&p)) {
			t.Errorf("%s: lists that were handed in have changed", name)
		}
	}
}

// askAll asks all calls of a program, for each of its methods.
func askAll(p api.Program) {
	assay.Form(p)
	assay.Encode(p)
	assay.Certify(p)
	for c, class := range p.Classes {
		for k := range class.Methods {
			assay.Infer(p, c, k)
			assay.Check(p, c, k)
			for _, ask := range []bool{true, false} {
				assay.Run(p, c, class.Methods[k].Slot, make([]int, len(class.Methods[k].Args)), 100, ask)
			}
		}
	}
}

// sound is a program whose methods are, with places, and with frames that are
// not all needed.
func sound() api.Program {
	m := coder(0, 3, ins(api.LOAD, 1, 0, api.IFZERO, 4, 0, api.NEW, 4, 0, api.GOTO, 5, 0, api.NEW, 5, 0,
		api.DUP, 0, 0, api.STORE, 3, 0, api.IFNULL, 0, 0, api.NUM, 0, 0, api.RET, 0, 0), start(0), start(1, 0), start(4), start(5, 4))
	p := kin(m)
	p.Classes[3].Methods[0].Frames = []api.Frame{{At: 1, Locals: []api.Type{2, 0, 2, 1}, Stack: []api.Type{4}}}
	return p
}

// P2: what is handed in is not kept: answers follow what it is at the time.
func TestNotKept(t *testing.T) {
	p := full()
	first, _ := assay.Encode(p)
	p.Classes[0].Methods[2].Code[0].A = 5
	answers(t, "another number", p, api.OK)
	p.Classes[0].Methods[2].Code[0].Op = 21
	answers(t, "a wrong Op", p, api.ErrCode)
	if first != spell(numbers(full())...) {
		t.Error("an answer has changed behind its call")
	}
}

// decoded is the full program as Decode gives it.
func decoded(t *testing.T) api.Program {
	t.Helper()
	p, e := assay.Decode(spell(numbers(full())...))
	if e != api.OK {
		t.Fatalf("Decode: %d", e)
	}
	return p
}

// certifiedSound is what Certify gives for p.
func certifiedSound(t *testing.T, p api.Program) api.Program {
	t.Helper()
	q, e := assay.Certify(p)
	if e != api.OK || len(q.Classes[kinClass].Methods[kinMethod].Frames) == 0 {
		t.Fatalf("Certify: %v, %d", numbers(q), e)
	}
	return q
}

// inferred is what Infer gives for p, as the frames of a program of its own.
func inferred(t *testing.T, p api.Program) api.Program {
	t.Helper()
	frames, e := assay.Infer(p, kinClass, kinMethod)
	if e != api.OK || len(frames) < 2 {
		t.Fatalf("Infer: %v, %d", frames, e)
	}
	return api.Program{Classes: []api.Class{{Methods: []api.Method{{Frames: frames}}}}}
}

// apart asks that no two lists lie in the same memory, nor their spare room.
func apart(t *testing.T, programs ...*api.Program) {
	t.Helper()
	type span struct {
		name     string
		from, to uintptr
	}
	var spans []span
	for _, p := range programs {
		for _, l := range walk(p, reflect.Slice) {
			if l.value.Cap() > 0 {
				from := l.value.Pointer()
				spans = append(spans, span{l.name, from, from + uintptr(l.value.Cap())*l.value.Type().Elem().Size()})
			}
		}
	}
	for k, a := range spans {
		for _, b := range spans[:k] {
			if a.from < b.to && b.from < a.to {
				t.Errorf("%s and %s share memory", a.name, b.name)
			}
		}
	}
}

// P2: no two lists that come out lie in the same memory, nor does their spare
// room, in one answer or in two, nor in that of what was handed in.
func TestApart(t *testing.T) {
	p, q := decoded(t), decoded(t)
	apart(t, &p, &q)
	in := sound()
	roomy(&in)
	p, q = certifiedSound(t, in), certifiedSound(t, in)
	i, j := inferred(t, in), inferred(t, in)
	apart(t, &in, &p, &q, &i, &j)
}

// P2: what Infer and Certify gave stays as it is, whatever becomes of what was
// handed in; writing into it changes neither that nor a later answer.
func TestKeptApart(t *testing.T) {
	in := sound()
	p, i := certifiedSound(t, in), inferred(t, in)
	keptP, keptI := copied(p), copied(i)
	scribble(&in)
	if !same(p, keptP) || !same(i, keptI) {
		t.Error("an answer has changed with what was handed in")
	}
	in = sound()
	p, i = certifiedSound(t, in), inferred(t, in)
	scribble(&p)
	scribble(&i)
	if !same(in, sound()) {
		t.Error("what was handed in has changed with an answer")
	}
	if !same(certifiedSound(t, in), keptP) || !same(inferred(t, in), keptI) {
		t.Error("a later answer has changed with one before it")
	}
}

// scribble writes over all numbers of a program, and behind all its lists.
func scribble(p *api.Program) {
	for _, n := range walk(p, reflect.Int) {
		n.value.SetInt(-7)
	}
	for _, l := range walk(p, reflect.Slice) {
		wide := l.value.Slice(0, l.value.Cap())
		for k := l.value.Len(); k < wide.Len(); k++ {
			if wide.Index(k).CanInt() {
				wide.Index(k).SetInt(-7)
			}
		}
	}
}

// P2: writing into a list that Decode gave, and behind it, changes no other
// list of it, nor a later answer.
func TestWrittenInto(t *testing.T) {
	p := decoded(t)
	lists := walk(&p, reflect.Slice)
	for k, l := range lists {
		if l.value.Type().Elem().Kind() == reflect.Struct && l.value.Type() != reflect.TypeFor[[]api.Ins]() {
			continue // what these hold are lists that are written into themselves
		}
		before := whole(&p)
		wide := l.value.Slice(0, l.value.Cap())
		for j := range wide.Len() {
			wide.Index(j).Set(odd(wide.Type().Elem()))
		}
		reflect.Append(l.value, odd(wide.Type().Elem()))
		for j, after := range whole(&p) {
			if j != k && !reflect.DeepEqual(before[j], after) {
				t.Errorf("writing into %s changed %s", l.name, lists[j].name)
			}
		}
	}
	readsAs(t, "a later answer", spell(numbers(full())...), full())
}

// odd is a value that no list of a program holds.
func odd(t reflect.Type) reflect.Value {
	if t.Kind() == reflect.Struct {
		return reflect.ValueOf(api.Ins{Op: -7, A: -7, B: -7})
	}
	return reflect.ValueOf(api.Type(-7))
}

// P2: an append behind any list of an answer reaches no other answer either.
func TestAppendedTo(t *testing.T) {
	p := decoded(t)
	p.Classes = append(p.Classes, api.Class{Super: 9})
	for c := range p.Classes {
		class := &p.Classes[c]
		class.Fields = append(class.Fields, 9)
		for k := range class.Methods {
			m := &class.Methods[k]
			m.Args = append(m.Args, 9)
			m.Code = append(m.Code, api.Ins{Op: 99})
			m.Frames = append(m.Frames, api.Frame{At: 99})
		}
		class.Methods = append(class.Methods, api.Method{Slot: 9})
	}
	readsAs(t, "a later answer", spell(numbers(full())...), full())
}
