package assay_test

import (
	"slices"

	"assay/api"
)

// This is what the document says of the machine that asks, told once more in
// the plainest way, for calls that Run does not refuse: a method that calls
// another one is a function that does, and an end is a panic.

type plainly struct {
	p                          api.Program
	fuel, steps, running, made int
	printed                    []int
}

// A value is an int or a *thing, which is nil for null.
type thing struct {
	class  int
	fields []any
}

type ending int

func end(kind int) { panic(ending(kind)) }

func must(holds bool) {
	if !holds {
		end(api.Fault)
	}
}

// plainRun is the outcome of a run on the machine that asks.
func plainRun(p api.Program, class, slot int, args []int, fuel int) (o api.Outcome) {
	r := &plainly{p: p, fuel: fuel}
	defer func() {
		cause := recover()
		if kind, ok := cause.(ending); ok {
			o = api.Outcome{Kind: int(kind)}
		} else if cause != nil {
			panic(cause)
		}
		o.Printed, o.Steps = r.printed, r.steps
	}()
	var values []any
	for _, n := range args {
		values = append(values, n)
	}
	o.Kind = api.Done
	switch told := r.run(r.method(class, slot), r.new(class), values).(type) {
	case int:
		o.Value = told
	case *thing:
		o.Value = -1
		if told != nil {
			o.Value = told.class
		}
	}
	return o
}

func (r *plainly) method(class, slot int) api.Method {
	for _, m := range r.p.Classes[class].Methods {
		if m.Slot == slot {
			return m
		}
	}
	return r.method(r.p.Classes[class].Super, slot)
}

func (r *plainly) fields(class int) []api.Type {
	if class < 0 {
		return nil
	}
	return slices.Concat(r.fields(r.p.Classes[class].Super), r.p.Classes[class].Fields)
}

func (r *plainly) new(class int) *thing {
	if r.made == 100 {
		end(api.Room)
	}
	r.made++
	o := &thing{class: class}
	for _, t := range r.fields(class) {
		if t == api.Int {
			o.fields = append(o.fields, 0)
		} else {
			o.fields = append(o.fields, (*thing)(nil))
		}
	}
	return o
}

// number is a value that must be one.
func number(v any) int {
	n, ok := v.(int)
	must(ok)
	return n
}

// nullOr is a value that must be null or an object.
func nullOr(v any) *thing {
	o, ok := v.(*thing)
	must(ok)
	return o
}

// declared is a value that must be of a declared type.
func (r *plainly) declared(v any, t api.Type) any {
	if t == api.Int {
		return number(v)
	}
	o := nullOr(v)
	must(o == nil || under(r.p, ofClass(o.class), t))
	return o
}

// object is the o of GET, PUT and CALL, which must be of this class.
func (r *plainly) object(v any, class int) *thing {
	if nullOr(v) == nil {
		end(api.NullEnd)
	}
	return r.declared(v, ofClass(class)).(*thing)
}

// takes is how many values an instruction takes.
func (r *plainly) takes(i api.Ins) int {
	switch i.Op {
	case api.NUM, api.LOAD, api.GOTO, api.NEW, api.NULL:
		return 0
	case api.ADD, api.SUB, api.MUL, api.DIV, api.PUT, api.SWAP:
		return 2
	case api.CALL:
		return 1 + len(r.method(i.A, i.B).Args)
	}
	return 1
}

func (r *plainly) run(m api.Method, this *thing, args []any) any {
	if r.running == 30 {
		end(api.Deep)
	}
	r.running++
	defer func() { r.running-- }()
	locals := map[int]any{0: this}
	for k, v := range args {
		locals[1+k] = v
	}
	var stack []any
	at := 0
	for {
		must(at < len(m.Code))
		if r.steps == r.fuel {
			end(api.Fuel)
		}
		i := m.Code[at]
		at++
		rest := len(stack) - r.takes(i)
		must(rest >= 0)
		taken := slices.Clone(stack[rest:])
		stack = stack[:rest]
		leave := func(values ...any) {
			must(len(stack)+len(values) <= m.Stack)
			stack = append(stack, values...)
		}
		switch i.Op {
		case api.NUM:
			leave(i.A)
		case api.LOAD:
			v, put := locals[i.A]
			must(put)
			leave(v)
		case api.STORE:
			locals[i.A] = taken[0]
		case api.ADD, api.SUB, api.MUL, api.DIV:
			leave(computed(i.Op, number(taken[0]), number(taken[1])))
		case api.GOTO:
			at = i.A
		case api.IFZERO:
			if number(taken[0]) == 0 {
				at = i.A
			}
		case api.IFNULL:
			if nullOr(taken[0]) == nil {
				at = i.A
			}
		case api.NEW:
			must(len(stack) < m.Stack)
			leave(r.new(i.A))
		case api.GET:
			leave(r.object(taken[0], i.A).fields[i.B])
		case api.PUT:
			x := r.declared(taken[1], r.fields(i.A)[i.B])
			r.object(taken[0], i.A).fields[i.B] = x
		case api.CALL:
			for k, t := range r.method(i.A, i.B).Args {
				r.declared(taken[1+k], t)
			}
			o := r.object(taken[0], i.A)
			if r.running < 30 {
				r.steps++
			}
			leave(r.run(r.method(o.class, i.B), o, taken[1:]))
			continue
		case api.RET:
			told := r.declared(taken[0], m.Ret)
			r.steps++
			return told
		case api.DUP:
			leave(taken[0], taken[0])
		case api.NULL:
			leave((*thing)(nil))
		case api.CAST:
			if o := nullOr(taken[0]); o != nil && !under(r.p, ofClass(o.class), ofClass(i.A)) {
				end(api.Cast)
			}
			leave(taken[0])
		case api.PRINT:
			r.printed = append(r.printed, number(taken[0]))
		case api.SWAP:
			leave(taken[1], taken[0])
		}
		r.steps++
	}
}

func computed(op, x, y int) int {
	switch op {
	case api.ADD:
		return x + y
	case api.SUB:
		return x - y
	case api.MUL:
		return x * y
	}
	if y == 0 {
		end(api.Zero)
	}
	if y == -1 {
		return -x // the least number's opposite is itself
	}
	return x / y
}
