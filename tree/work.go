package tree

// Work is what a run works out of two numbers; not ok, if it stops there instead.
// Go's int16 wraps round as a run does, at MIN / -1 and MIN % -1 too.
func (o Op) Work(x, y int16) (result int16, ok bool) {
	switch o {
	case Add:
		return x + y, true
	case Subtract:
		return x - y, true
	case Multiply:
		return x * y, true
	}
	if y == 0 {
		return 0, false
	}
	if o == Divide {
		return x / y, true
	}
	return x % y, true
}

// Holds tells whether two numbers stand to each other so.
func (r Relation) Holds(x, y int16) bool {
	switch r {
	case Less:
		return x < y
	case LessEqual:
		return x <= y
	case Equal:
		return x == y
	case NotEqual:
		return x != y
	case GreaterEqual:
		return x >= y
	}
	return x > y
}
