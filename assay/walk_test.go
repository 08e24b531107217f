package assay_test

import (
	"reflect"
	"strconv"

	"assay/api"
)

// same tells whether two programs say the same; empty lists and nil are one.
func same(a, b api.Program) bool {
	return reflect.DeepEqual(copied(a), copied(b))
}

// part is a number or a list somewhere in a program.
type part struct {
	name  string
	value reflect.Value
	wrong api.Errno // what Form says if it may not be
}

// walk tells all parts of a program that are of one of these kinds.
func walk(p *api.Program, kind reflect.Kind) []part {
	var parts []part
	var visit func(name string, v reflect.Value, wrong api.Errno)
	visit = func(name string, v reflect.Value, wrong api.Errno) {
		if v.Kind() == kind {
			parts = append(parts, part{name, v, wrong})
		}
		switch v.Kind() {
		case reflect.Struct:
			for k := range v.NumField() {
				field := v.Type().Field(k).Name
				inner := wrong
				if field == "Code" || field == "Frames" {
					inner = api.ErrCode
				}
				visit(name+"."+field, v.Field(k), inner)
			}
		case reflect.Slice:
			for k := range v.Len() {
				visit(name+"["+strconv.Itoa(k)+"]", v.Index(k), wrong)
			}
		}
	}
	visit("p", reflect.ValueOf(p).Elem(), api.ErrClass)
	return parts
}
