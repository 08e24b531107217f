// Package machine: how programs run.
//
// It has two machines in one. The one that asks looks ahead of each instruction
// whether all is as that must have it. The other one looks at nothing: it may
// only be given programs whose methods all pass. What they do is the same.
//
// Both ask for a program that holds.
package machine

import (
	"assay/api"
	"assay/lineage"
)

type machine struct {
	p       api.Program
	fuel    int
	ask     bool
	running []*frame // each called by the one ahead of it
	objects int      // how many were made
	told    value    // by the method that ended last
	printed []int
	steps   int
}

// Run makes an object of a class, and runs its method of a slot with it and
// args. The method must be there, and take just so many numbers.
func Run(p api.Program, class int, slot int, args []int, fuel int, ask bool) api.Outcome {
	m := machine{p: p, fuel: fuel, ask: ask}
	var values []value
	for _, n := range args {
		values = append(values, number(n))
	}
	m.begin(m.create(class), slot, values)
	kind := m.work()
	outcome := api.Outcome{Kind: kind, Printed: m.printed, Steps: m.steps}
	if kind == api.Done {
		outcome.Value = tell(m.told, m.find(class, slot).Ret)
	}
	return outcome
}

// tell is what an outcome says of a value of this type.
func tell(v value, t api.Type) int {
	if t == api.Int {
		return v.number
	}
	if v.object == nil {
		return -1
	}
	return v.object.class
}

// goesOn stands where the kind of an end would, if there is none yet.
const goesOn = 0

// work does instructions until the run ends, and tells how it did.
//
// What is done to its end goes on at the label, and so counts as a step. That
// at which the run ends returns instead, and does not.
func (m *machine) work() int {
next:
	for ; len(m.running) > 0; m.steps++ {
		f := m.running[len(m.running)-1]
		if end := m.look(f); end != goesOn {
			return end
		}
		ins := f.method.Code[f.at]
		switch ins.Op {
		case api.GOTO:
			f.at = ins.A
			continue next
		case api.IFZERO:
			if f.pop().number == 0 {
				f.at = ins.A
				continue next
			}
		case api.IFNULL:
			if f.pop().object == nil {
				f.at = ins.A
				continue next
			}
		case api.CALL:
			args := f.take(len(m.find(ins.A, ins.B).Args))
			this := f.pop().object
			if this == nil {
				return api.NullEnd
			}
			if len(m.running) == api.MaxDeep {
				return api.Deep
			}
			f.at++
			m.begin(this, ins.B, args)
			continue next
		case api.RET:
			m.end(f.pop())
			continue next
		default:
			if end := m.do(f, ins); end != goesOn {
				return end
			}
		}
		f.at++
	}
	return api.Done
}

// look is ahead of each instruction: at whether there is one, then at the fuel,
// then, since what is not done faults at nothing, at what it is done to.
func (m *machine) look(f *frame) int {
	if m.ask && f.at == len(f.method.Code) {
		return api.Fault
	}
	if m.steps == m.fuel {
		return api.Fuel
	}
	if m.ask && !m.isReady(f, f.method.Code[f.at]) {
		return api.Fault
	}
	return goesOn
}

// do does an instruction behind which the next one is at hand.
func (m *machine) do(f *frame, ins api.Ins) int {
	switch ins.Op {
	case api.DIV:
		if f.top().number == 0 {
			return api.Zero
		}
		f.move(ins)
	case api.NEW:
		if m.objects == api.MaxObjects {
			return api.Room
		}
		f.push(reference(m.create(ins.A)))
	case api.GET:
		o := f.pop().object
		if o == nil {
			return api.NullEnd
		}
		f.push(o.fields[ins.B])
	case api.PUT:
		x, o := f.pop(), f.pop().object
		if o == nil {
			return api.NullEnd
		}
		o.fields[ins.B] = x
	case api.CAST:
		o := f.top().object
		if o != nil && !lineage.Descends(m.p, o.class, ins.A) {
			return api.Cast
		}
	case api.PRINT:
		m.printed = append(m.printed, f.pop().number)
	default:
		f.move(ins)
	}
	return goesOn
}

// find is the method of a class and a slot, which must be there.
func (m *machine) find(class int, slot int) api.Method {
	found, _ := lineage.FindMethod(m.p, class, slot)
	return found
}

func (m *machine) create(class int) *object {
	m.objects++
	o := &object{class: class}
	for _, t := range lineage.Fields(m.p, class) {
		o.fields = append(o.fields, first(t))
	}
	return o
}

// begin lets the method of an object's class and a slot run.
func (m *machine) begin(this *object, slot int, args []value) {
	m.running = append(m.running, newFrame(m.find(this.class, slot), reference(this), args))
}

// end ends the method that runs, and hands what it tells to the one behind it.
func (m *machine) end(told value) {
	m.told = told
	m.running = m.running[:len(m.running)-1]
	if len(m.running) > 0 {
		m.running[len(m.running)-1].push(told)
	}
}
