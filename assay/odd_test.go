package assay_test

import (
	"fmt"
	"math"
	"math/rand"
	"reflect"
	"strings"
	"testing"

	"assay/api"
	"assay/assay"
)

// P1: every number of a program in turn is one that it can't be.
func TestOddNumbers(t *testing.T) {
	p := full()
	for _, n := range walk(&p, reflect.Int) {
		was := n.value.Int()
		for _, odd := range []int64{math.MinInt64, math.MinInt64 + 1, math.MinInt32, -2, 41, 1 << 8, 1 << 32, math.MaxInt64 - 1, math.MaxInt64} {
			n.value.SetInt(odd)
			want := n.wrong
			if isOperandOfNum(p, n.name) {
				want = api.OK
			}
			answers(t, fmt.Sprintf("%s = %d", n.name, odd), p, want)
		}
		n.value.SetInt(was)
	}
	answers(t, "as it was", p, api.OK)
}

func isOperandOfNum(p api.Program, name string) bool {
	var c, m, k int
	if n, _ := fmt.Sscanf(name, "p.Classes[%d].Methods[%d].Code[%d].A", &c, &m, &k); n < 3 {
		return false
	}
	return strings.HasSuffix(name, ".A") && p.Classes[c].Methods[m].Code[k].Op == api.NUM
}

// P1: every list of a program in turn is too long.
func TestLongLists(t *testing.T) {
	p := full()
	for _, l := range walk(&p, reflect.Slice) {
		was := l.value.Interface()
		for _, more := range []int{41, 1000} {
			l.value.Set(reflect.AppendSlice(reflect.ValueOf(was), reflect.MakeSlice(l.value.Type(), more, more)))
			answers(t, fmt.Sprintf("%s and %d more", l.name, more), p, l.wrong)
		}
		l.value.Set(reflect.ValueOf(was))
	}
	answers(t, "as it was", p, api.OK)
}

// P1: every list of a program in turn is empty, or nil.
func TestEmptyLists(t *testing.T) {
	p := full()
	for _, l := range walk(&p, reflect.Slice) {
		was := l.value.Interface()
		for _, empty := range []reflect.Value{reflect.Zero(l.value.Type()), reflect.MakeSlice(l.value.Type(), 0, 3)} {
			l.value.Set(empty)
			consistent(t, l.name+" empty", p)
		}
		l.value.Set(reflect.ValueOf(was))
	}
	answers(t, "no class", api.Program{}, api.ErrClass)
	answers(t, "no class, not nil", api.Program{Classes: []api.Class{}}, api.ErrClass)
}

// consistent asks for answers that go together, whatever they are.
func consistent(t *testing.T, name string, p api.Program) {
	t.Helper()
	e := assay.Form(p)
	if e != api.OK && e != api.ErrClass && e != api.ErrCode {
		t.Errorf("%s: Form: %d", name, e)
	}
	answers(t, name, p, e)
}

// P1: a list that would take long to go through is refused by its length.
func TestHugeLists(t *testing.T) {
	const huge = 1 << 20
	p := api.Program{Classes: make([]api.Class, huge)}
	p.Classes[0].Super = -1
	answers(t, "classes", p, api.ErrClass)
	for name, change := range map[string]func(c *api.Class, m *api.Method){
		"fields":  func(c *api.Class, m *api.Method) { c.Fields = make([]api.Type, huge) },
		"methods": func(c *api.Class, m *api.Method) { c.Methods = make([]api.Method, huge) },
		"args":    func(c *api.Class, m *api.Method) { m.Args = make([]api.Type, huge) },
	} {
		p := full()
		change(&p.Classes[0], &p.Classes[0].Methods[0])
		answers(t, name, p, api.ErrClass)
	}
	for name, change := range map[string]func(m *api.Method){
		"code":         func(m *api.Method) { m.Code = make([]api.Ins, huge) },
		"frames":       func(m *api.Method) { m.Frames = make([]api.Frame, huge) },
		"frame locals": func(m *api.Method) { m.Frames[0].Locals = make([]api.Type, huge) },
		"frame stack":  func(m *api.Method) { m.Frames[0].Stack = make([]api.Type, huge) },
	} {
		p := full()
		change(&p.Classes[0].Methods[2])
		answers(t, name, p, api.ErrCode)
	}
}

// P1: ErrClass, wherever it stands, goes ahead of ErrCode.
func TestClassAheadOfCode(t *testing.T) {
	for name, wrong := range map[string]func(p *api.Program){
		"classes":       func(p *api.Program) { p.Classes = append(p.Classes, api.Class{}) },
		"last super":    func(p *api.Program) { p.Classes[5].Super = 5 },
		"last field":    func(p *api.Program) { p.Classes[5].Fields[0] = 9 },
		"last method":   func(p *api.Program) { p.Classes[4].Methods[0].Slot = 6 },
		"other ret":     func(p *api.Program) { p.Classes[4].Methods[0].Ret = 0 },
		"other args":    func(p *api.Program) { p.Classes[4].Methods[0].Args = nil },
		"no locals":     func(p *api.Program) { p.Classes[4].Methods[0].Locals = 0 },
		"stack below 0": func(p *api.Program) { p.Classes[4].Methods[0].Stack = -1 },
	} {
		p := full()
		p.Classes[0].Methods[0].Code = nil
		answers(t, "code alone", p, api.ErrCode)
		wrong(&p)
		answers(t, name+" and code", p, api.ErrClass)
		p = full()
		p.Classes[0].Methods[2].Frames[0].At = -1
		answers(t, "frames alone", p, api.ErrCode)
		wrong(&p)
		answers(t, name+" and frames", p, api.ErrClass)
	}
}

// P1, P4: texts of all kinds.
func TestOddTexts(t *testing.T) {
	refused(t, "empty", "")
	for b := range 256 {
		one := string([]byte{byte(b)})
		refused(t, "one byte", one)
		for _, n := range []int{2, 3, 9, 10, 11, 100, 1 << 20} {
			refused(t, "one byte again and again", strings.Repeat(one, n))
		}
	}
	source := rand.New(rand.NewSource(1))
	for range 20000 {
		text := make([]byte, source.Intn(30))
		for k := range text {
			text[k] = byte(source.Intn(1 << (1 + source.Intn(8))))
		}
		tells(t, string(text))
	}
}

// P1, P4: each byte of a program's text in turn is another one.
func TestOddBytes(t *testing.T) {
	text := []byte(spell(numbers(full())...))
	for k, was := range text {
		for b := range 256 {
			text[k] = byte(b)
			tells(t, string(text))
		}
		text[k] = was
	}
	readsAs(t, "as it was", string(text), full())
}
