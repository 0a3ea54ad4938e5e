// Package tree: a program as a tree of nodes.
package tree

// Program is a whole program: its statements, and its end, which has a point of its own; how many sites it has, and the numbers in its text.
type Program struct {
	Block
	End     Point
	Sites   int
	Numbers []Number
}

// Block is statements, one behind the other.
type Block []Statement

// Statement is an Assign, a Read, an Assert, an If or a While, each with its Point.
type Statement interface{ Where() int }

// Point is where a run comes by: the number of a statement, from 0 on in the order in which they begin in the text, or of the end.
type Point int

// Where tells it.
func (p Point) Where() int { return int(p) }

// Site is where a run may stop: the number of a /, a % or an assert, from 0 on in their order in the text.
type Site int

// Assign puts the value of a sum into a variable.
type Assign struct {
	Point
	Name Name
	Sum  Sum
}

// Read puts the next input into a variable.
type Read struct {
	Point
	Name Name
}

// Assert asks for a condition to hold.
type Assert struct {
	Point
	Site Site
	Cond Cond
}

// If has two blocks. An else with nothing in it is written, one that is not there isn't: HasElse tells them apart.
type If struct {
	Point
	Cond    Cond
	Then    Block
	Else    Block
	HasElse bool
}

// While goes round its block as long as its condition holds.
type While struct {
	Point
	Cond  Cond
	Block Block
}

// Cond holds two sums against each other.
type Cond struct {
	Relation
	Left, Right Sum
}

// Sum is a Number, a Name, a Negation or a Binary. Round brackets are no node: the tree's shape has them.
type Sum interface{ Level() Level }

// Number is a number of the text; a text has none below 0.
type Number int16

// Name is a variable: 0 is a, 1 is b, and so on.
type Name int

// Negation is the - ahead of a unary.
type Negation struct{ Of Sum }

// Binary is a sign between two sums. Its Site means something only if the sign has one.
type Binary struct {
	Op
	Site        Site
	Left, Right Sum
}

// Level of a number: nothing can tear it apart.
func (Number) Level() Level { return Unaries }

// Level of a name: nothing can tear it apart.
func (Name) Level() Level { return Unaries }

// Level of a negation: its - binds tighter than any sign between two sums.
func (Negation) Level() Level { return Unaries }

// Text is the name's letter.
func (n Name) Text() string { return string(rune('a' + n)) }
