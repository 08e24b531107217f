package assay_test

import (
	"fmt"
	"math"
	"strings"
	"testing"

	"assay/api"
	"assay/assay"
)

// pushes is a program whose only instruction is NUM n.
func pushes(n int) api.Program {
	m := method(0, api.Int)
	m.Code = ins(api.NUM, n, 0)
	return api.Program{Classes: []api.Class{{Super: -1, Methods: []api.Method{m}}}}
}

// Ahead of and behind the bytes of n in what pushes(n) is written as.
const (
	aheadOfNumber  = "\x02\x01\x00\x02" + "\x00\x00\x00\x02\x02\x02" + "\x00"
	behindOfNumber = "\x00" + "\x00"
)

// P4: numbers, each as the bytes that the document's rule gives.
func TestNumbers(t *testing.T) {
	for n, want := range map[int]string{
		0: "\x00", -1: "\x01", 1: "\x02", -2: "\x03", 2: "\x04",
		63: "\x7e", -64: "\x7f", 64: "\x80\x01", -65: "\x81\x01", 65: "\x82\x01",
		8191: "\xfe\x7f", -8192: "\xff\x7f", 8192: "\x80\x80\x01", -8193: "\x81\x80\x01",
		1 << 31: "\x80\x80\x80\x80\x10", -1 << 31: "\xff\xff\xff\xff\x0f",
		1<<62 - 1: "\xfe" + strings.Repeat("\xff", 7) + "\x7f", -1 << 62: strings.Repeat("\xff", 8) + "\x7f",
		1 << 62: strings.Repeat("\x80", 9) + "\x01", -1<<62 - 1: "\x81" + strings.Repeat("\x80", 8) + "\x01",
		math.MaxInt: "\xfe" + strings.Repeat("\xff", 8) + "\x01", math.MinInt: strings.Repeat("\xff", 9) + "\x01",
	} {
		text := aheadOfNumber + want + behindOfNumber
		if got, e := assay.Encode(pushes(n)); got != text || e != api.OK {
			t.Errorf("%d: % x, %d, want % x", n, got, e, text)
		}
		readsAs(t, fmt.Sprint(n), text, pushes(n))
	}
}

// P4: at each power of 2, on both sides, what was written is read again.
func TestPowers(t *testing.T) {
	for k := range 64 {
		for n := 1<<k - 2; n != 1<<k+2; n++ {
			answers(t, fmt.Sprint(n), pushes(n), api.OK)
			answers(t, fmt.Sprint(-n), pushes(-n), api.OK)
		}
	}
}

// P4: numbers that are written longer than need be, or beyond 64 bits.
func TestWrongNumbers(t *testing.T) {
	for _, wrong := range []string{
		"\x80\x00", "\x81\x00", "\xff\x00", "\x80\x80\x00", "\xff\xff\x00", "\x80\x81\x00",
		strings.Repeat("\x80", 8) + "\x00", strings.Repeat("\x80", 9) + "\x00", strings.Repeat("\xff", 9) + "\x00",
		strings.Repeat("\x80", 9) + "\x02", strings.Repeat("\xff", 9) + "\x02", strings.Repeat("\xff", 9) + "\x03", strings.Repeat("\xff", 9) + "\x7f",
		strings.Repeat("\x80", 9) + "\x80\x01", strings.Repeat("\xff", 9) + "\x81\x00", strings.Repeat("\xff", 9) + "\x81\x01",
		strings.Repeat("\x80", 10) + "\x01", strings.Repeat("\x80", 63) + "\x01", strings.Repeat("\x80", 64) + "\x00",
	} {
		refused(t, fmt.Sprintf("% x", wrong), aheadOfNumber+wrong+behindOfNumber)
	}
}

// P4: each number of a program in turn is written with a byte too much.
func TestEachNumberLonger(t *testing.T) {
	all := numbers(full())
	for k, n := range all {
		one := spell(n)
		longer := one[:len(one)-1] + string([]byte{one[len(one)-1] | 128, 0})
		refused(t, fmt.Sprint("number ", k), spell(all[:k]...)+longer+spell(all[k+1:]...))
	}
}

// P4: the order of a program's numbers, one by one.
func TestOrder(t *testing.T) {
	p := api.Program{Classes: []api.Class{
		{Super: -1, Fields: []api.Type{0, 4}, Methods: []api.Method{
			{Slot: 5, Args: []api.Type{4, 0}, Ret: 3, Locals: 4, Stack: 6, Code: ins(api.GET, 1, 2, api.RET, 0, 0), Frames: []api.Frame{
				{At: 0, Locals: []api.Type{3, 4, 0, 2}, Stack: []api.Type{1, 0, 4}},
				{At: 1, Locals: []api.Type{0, 1, 2, 3}},
			}},
			{Slot: 1, Ret: 0, Locals: 1, Stack: 0, Code: ins(api.CALL, 0, 5)},
		}},
		{Super: 0, Fields: []api.Type{3}},
	}}
	text := spell(
		2,              // classes
		-1, 2, 0, 4, 2, // Super, fields, methods
		5, 2, 4, 0, 3, 4, 6, // Slot, Args, Ret, Locals, Stack
		2, 10, 1, 2, 13, 0, 0, // Code
		2, 0, 3, 4, 0, 2, 3, 1, 0, 4, // Frames: the first one
		1, 0, 1, 2, 3, 0, // the second one
		1, 0, 0, 1, 0, // Slot, Args, Ret, Locals, Stack
		1, 12, 0, 5, 0, // Code, Frames
		0, 1, 3, 0, // Super, fields, methods
	)
	if got, e := assay.Encode(p); got != text || e != api.OK {
		t.Errorf("% x, %d, want % x", got, e, text)
	}
	readsAs(t, "in order", text, p)
	answers(t, "in order", p, api.OK)
}

// P4: Encode has Form's errors, and no bytes beside them.
func TestEncodeRefuses(t *testing.T) {
	for _, c := range []struct {
		p    api.Program
		want api.Errno
	}{
		{api.Program{}, api.ErrClass}, {api.Program{Classes: []api.Class{{}}}, api.ErrClass},
		{coded(nil), api.ErrCode}, {coded(ins(api.LOAD, 3, 0)), api.ErrCode}, {coded(ins(api.RET, 0, 0), at(1)), api.ErrCode},
	} {
		if text, e := assay.Encode(c.p); text != "" || e != c.want {
			t.Errorf("%+v: %q, %d, want %d", c.p, text, e, c.want)
		}
	}
}

// P4: bytes that are cut off, or have more behind them.
func TestCutOff(t *testing.T) {
	text := spell(numbers(full())...)
	readsAs(t, "whole", text, full())
	for k := range text {
		refused(t, fmt.Sprintf("the first %d bytes", k), text[:k])
	}
	for b := range 256 {
		refused(t, "a byte more", text+string([]byte{byte(b)}))
	}
	refused(t, "twice", text+text)
}

// P4: a number less, or one more, anywhere.
func TestNumberLessOrMore(t *testing.T) {
	all := numbers(full())
	for k := range all {
		tells(t, spell(all[:k]...)+spell(all[k+1:]...))
		for _, n := range []int{-1, 0, 1, 5} {
			tells(t, spell(all[:k]...)+spell(n)+spell(all[k:]...))
		}
	}
}

// P4: counts that no program has, and no memory for them.
func TestWrongCounts(t *testing.T) {
	for name, numbers := range map[string][]int{
		"classes":     {},
		"fields":      {1, -1},
		"methods":     {1, -1, 0},
		"args":        {1, -1, 0, 1, 0},
		"code":        {1, -1, 0, 1, 0, 0, 0, 1, 0},
		"frames":      {1, -1, 0, 1, 0, 0, 0, 1, 0, 1, 13, 0, 0},
		"frame stack": {1, -1, 0, 1, 0, 0, 0, 1, 0, 1, 13, 0, 0, 1, 0, 3},
	} {
		for _, count := range []int{math.MinInt, -1, 41, 1 << 20, 1 << 40, math.MaxInt} {
			refused(t, fmt.Sprintf("%s: %d", name, count), spell(append(numbers, count)...))
			refused(t, fmt.Sprintf("%s: %d and 100 zeros", name, count), spell(append(numbers, count)...)+strings.Repeat("\x00", 100))
		}
	}
	for _, locals := range []int{math.MinInt, -1, 0, 9, 1 << 40, math.MaxInt} {
		refused(t, fmt.Sprintf("locals: %d", locals), spell(1, -1, 0, 1, 0, 0, 0, locals, 0, 1, 13, 0, 0, 1, 0, 0))
	}
}
