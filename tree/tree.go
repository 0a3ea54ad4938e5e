// Package tree: a program as a tree of nodes.
package tree

// Block is statements, one behind the other; a whole program is one too.
type Block []Statement

// Statement is an Assign, a Read, an Assert, an If or a While.
type Statement interface{ statement() }

// Assign puts the value of a sum into a variable.
type Assign struct {
	Name Name
	Sum  Sum
}

// Read puts the next input into a variable.
type Read struct{ Name Name }

// Assert asks for a condition to hold.
type Assert struct{ Cond Cond }

// If has two blocks. An else with nothing in it is written, one that is not there isn't: HasElse tells them apart.
type If struct {
	Cond    Cond
	Then    Block
	Else    Block
	HasElse bool
}

// While goes round its block as long as its condition holds.
type While struct {
	Cond  Cond
	Block Block
}

func (Assign) statement() {}
func (Read) statement()   {}
func (Assert) statement() {}
func (If) statement()     {}
func (While) statement()  {}

// Cond holds two sums against each other.
type Cond struct {
	Relation
	Left, Right Sum
}

// Sum is a Number, a Name, a Negation or a Binary. Round brackets are no node: the tree's shape has them.
type Sum interface{ Level() Level }

// Number is a number of the text; a text has none below 0.
type Number int16

// Name is a variable: 0 is a, 1 is b, and so on.
type Name int

// Negation is the - ahead of a unary.
type Negation struct{ Of Sum }

// Binary is a sign between two sums.
type Binary struct {
	Op
	Left, Right Sum
}

// Level of a number: nothing can tear it apart.
func (Number) Level() Level { return Unaries }

// Level of a name: nothing can tear it apart.
func (Name) Level() Level { return Unaries }

// Level of a negation: its - binds tighter than any sign between two sums.
func (Negation) Level() Level { return Unaries }

// Text is the name's letter.
func (n Name) Text() string { return string(rune('a' + n)) }
