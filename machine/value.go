package machine

import (
	"assay/api"
	"assay/kinds"
)

// value is a number, or null, or an object.
//
// Its kind is there to be asked for. What instructions do never hangs on it, so
// that they do the same on the machine that does not ask.
type value struct {
	kind   api.Type // Int, Null or a class's; Top, where nothing was put
	number int
	object *object // nil for null
}

type object struct {
	class  int
	fields []value
}

func nothing() value {
	return value{kind: api.Top}
}

func number(n int) value {
	return value{kind: api.Int, number: n}
}

func null() value {
	return value{kind: api.Null}
}

func reference(o *object) value {
	return value{kind: kinds.Of(o.class), object: o}
}

// first is what stands in a field of this type at first.
func first(t api.Type) value {
	if t == api.Int {
		return number(0)
	}
	return null()
}
