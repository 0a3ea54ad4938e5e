package tree

// Level is the rule of the grammar by which a sum is read: the greater it is, the tighter its outermost sign binds.
type Level int

// The levels.
const (
	Sums Level = iota
	Products
	Unaries
)

// Op is a sign between two sums.
type Op int

// The signs between two sums.
const (
	Add Op = iota
	Subtract
	Multiply
	Divide
	Remainder
)

var opSigns = [...]string{"+", "-", "*", "/", "%"}

// Sign is how it is written.
func (o Op) Sign() string { return opSigns[o] }

// Level is that of the sum which it makes of its two sides.
func (o Op) Level() Level {
	if o == Add || o == Subtract {
		return Sums
	}
	return Products
}

// HasSite tells whether a run may stop at it.
func (o Op) HasSite() bool { return o == Divide || o == Remainder }

// Ops looks an Op up by its sign.
func Ops() map[string]Op {
	ops := map[string]Op{}
	for o := Add; o <= Remainder; o++ {
		ops[o.Sign()] = o
	}
	return ops
}

// Relation is the sign of a condition.
type Relation int

// The signs of a condition.
const (
	Less Relation = iota
	LessEqual
	Equal
	NotEqual
	GreaterEqual
	Greater
)

var relationSigns = [...]string{"<", "<=", "==", "!=", ">=", ">"}

// Sign is how it is written.
func (r Relation) Sign() string { return relationSigns[r] }

var opposites = [...]Relation{GreaterEqual, Greater, NotEqual, Equal, Less, LessEqual}

// Opposite is the one that holds just where this one doesn't.
func (r Relation) Opposite() Relation { return opposites[r] }

var mirrors = [...]Relation{Greater, GreaterEqual, Equal, NotEqual, LessEqual, Less}

// Mirror is the one that holds with the two sides changed about.
func (r Relation) Mirror() Relation { return mirrors[r] }

// Relations looks a Relation up by its sign.
func Relations() map[string]Relation {
	relations := map[string]Relation{}
	for r := Less; r <= Greater; r++ {
		relations[r.Sign()] = r
	}
	return relations
}
