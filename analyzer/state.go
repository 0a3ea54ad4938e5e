package analyzer

import "invariants/api"

// state is a value for each variable. One that is not reached is none, and always its zero value, so that == tells whether two are the same.
type state[V comparable] struct {
	reached bool
	values  [api.Names]V
}

// same is the state in which all variables have one value.
func same[V comparable](value V) state[V] {
	s := state[V]{reached: true}
	for name := range s.values {
		s.values[name] = value
	}
	return s
}

// each puts two states together, variable by variable. Of none it makes none.
func each[V comparable](x, y state[V], put func(x, y V) V) state[V] {
	if !x.reached || !y.reached {
		return state[V]{}
	}
	for name := range x.values {
		x.values[name] = put(x.values[name], y.values[name])
	}
	return x
}
