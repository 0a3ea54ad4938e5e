// Package analyzer: from a program's tree to what holds at its points, whatever it reads; one text for all domains.
package analyzer

import (
	"invariants/api"
	"invariants/tree"
)

// Domain is what an analysis has to know of the values V that a variable may have.
type Domain[V comparable] interface {
	// Number is the value of one number alone.
	Number(n int16) V
	// Whole is the value of all numbers.
	Whole() V
	Negate(x V) V
	// Work is the value behind a sign between two; not ok, if there is none.
	Work(op tree.Op, x, y V) (value V, ok bool)
	// HasNought tells whether a value may be 0.
	HasNought(x V) bool
	Join(x, y V) V
	// May tells whether a condition may hold between two values.
	May(relation tree.Relation, x, y V) bool
	// Bound is what is left of a value by a condition, on whose left side it stands; not ok, if nothing is.
	Bound(relation tree.Relation, x, right V) (value V, ok bool)
	Widen(x, y V) V
	Narrow(x, y V) V
	// Tell is the value as a report has it.
	Tell(x V) api.Value
}
