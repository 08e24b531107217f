package assay_test

import (
	"reflect"
	"slices"
	"testing"

	"assay/api"
	"assay/assay"
)

// roomy gives every list of a program spare room, and fills that. Inner lists
// go first: the outer ones are laid anew with them.
func roomy(p *api.Program) {
	for _, l := range slices.Backward(walk(p, reflect.Slice)) {
		n := l.value.Len()
		longer := reflect.MakeSlice(l.value.Type(), n+3, n+3)
		reflect.Copy(longer, l.value)
		for k := range 3 {
			if v := longer.Index(n + k); v.CanInt() {
				v.SetInt(77)
			}
		}
		l.value.Set(longer.Slice(0, n))
	}
}

// whole is a copy of every list of a program, with what stands behind it.
func whole(p *api.Program) []any {
	var all []any
	for _, l := range walk(p, reflect.Slice) {
		wide := l.value.Slice(0, l.value.Cap())
		kept := reflect.MakeSlice(wide.Type(), wide.Len(), wide.Len())
		reflect.Copy(kept, wide)
		all = append(all, kept.Interface())
	}
	return all
}

// P2: what is handed in is as it was, with what stands behind it.
func TestHandedIn(t *testing.T) {
	for name, change := range map[string]func(p *api.Program){
		"good":      func(p *api.Program) {},
		"bad class": func(p *api.Program) { p.Classes[5].Super = 5 },
		"bad code":  func(p *api.Program) { p.Classes[0].Methods[5].Code = nil },
	} {
		p := full()
		change(&p)
		roomy(&p)
		before := whole(&p)
		assay.Form(p)
		assay.Encode(p)
		if !reflect.DeepEqual(before, whole(&p)) {
			t.Errorf("%s: lists that were handed in have changed", name)
		}
	}
}

// P2: what is handed in is not kept: answers follow what it is at the time.
func TestNotKept(t *testing.T) {
	p := full()
	first, _ := assay.Encode(p)
	p.Classes[0].Methods[2].Code[0].A = 5
	answers(t, "another number", p, api.OK)
	p.Classes[0].Methods[2].Code[0].Op = 21
	answers(t, "a wrong Op", p, api.ErrCode)
	if first != spell(numbers(full())...) {
		t.Error("an answer has changed behind its call")
	}
}

// decoded is the full program as Decode gives it.
func decoded(t *testing.T) api.Program {
	t.Helper()
	p, e := assay.Decode(spell(numbers(full())...))
	if e != api.OK {
		t.Fatalf("Decode: %d", e)
	}
	return p
}

// P2: no two lists that Decode gives lie in the same memory, nor does their
// spare room, in one answer or in two.
func TestApart(t *testing.T) {
	p, q := decoded(t), decoded(t)
	type span struct {
		name     string
		from, to uintptr
	}
	var spans []span
	for _, l := range append(walk(&p, reflect.Slice), walk(&q, reflect.Slice)...) {
		if l.value.Cap() > 0 {
			from := l.value.Pointer()
			spans = append(spans, span{l.name, from, from + uintptr(l.value.Cap())*l.value.Type().Elem().Size()})
		}
	}
	for k, a := range spans {
		for _, b := range spans[:k] {
			if a.from < b.to && b.from < a.to {
				t.Errorf("%s and %s share memory", a.name, b.name)
			}
		}
	}
}

// P2: writing into a list that Decode gave, and behind it, changes no other
// list of it, nor a later answer.
func TestWrittenInto(t *testing.T) {
	p := decoded(t)
	lists := walk(&p, reflect.Slice)
	for k, l := range lists {
		if l.value.Type().Elem().Kind() == reflect.Struct && l.value.Type() != reflect.TypeFor[[]api.Ins]() {
			continue // what these hold are lists that are written into themselves
		}
		before := whole(&p)
		wide := l.value.Slice(0, l.value.Cap())
		for j := range wide.Len() {
			wide.Index(j).Set(odd(wide.Type().Elem()))
		}
		reflect.Append(l.value, odd(wide.Type().Elem()))
		for j, after := range whole(&p) {
			if j != k && !reflect.DeepEqual(before[j], after) {
				t.Errorf("writing into %s changed %s", l.name, lists[j].name)
			}
		}
	}
	readsAs(t, "a later answer", spell(numbers(full())...), full())
}

// odd is a value that no list of a program holds.
func odd(t reflect.Type) reflect.Value {
	if t.Kind() == reflect.Struct {
		return reflect.ValueOf(api.Ins{Op: -7, A: -7, B: -7})
	}
	return reflect.ValueOf(api.Type(-7))
}

// P2: an append behind any list of an answer reaches no other answer either.
func TestAppendedTo(t *testing.T) {
	p := decoded(t)
	p.Classes = append(p.Classes, api.Class{Super: 9})
	for c := range p.Classes {
		class := &p.Classes[c]
		class.Fields = append(class.Fields, 9)
		for k := range class.Methods {
			m := &class.Methods[k]
			m.Args = append(m.Args, 9)
			m.Code = append(m.Code, api.Ins{Op: 99})
			m.Frames = append(m.Frames, api.Frame{At: 99})
		}
		class.Methods = append(class.Methods, api.Method{Slot: 9})
	}
	readsAs(t, "a later answer", spell(numbers(full())...), full())
}
