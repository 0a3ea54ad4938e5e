// Package reader: from a text to the tree of its program.
package reader

import (
	"strconv"

	"invariants/api"
	"invariants/tree"
)

// reader goes through a text, token by token. At a fault it leaves by a panic with an *api.Fault.
type reader struct {
	src       string
	now       token // the first one that is not taken yet
	open      int   // brackets, and minus signs ahead of a unary
	points    tree.Point
	sites     tree.Site
	numbers   []tree.Number
	ops       map[string]tree.Op
	relations map[string]tree.Relation
}

// Program reads a text that is a program. The error is api.ErrLong or an *api.Fault.
func Program(src string) (program tree.Program, err error) {
	if len(src) > api.MaxText {
		return tree.Program{}, api.ErrLong
	}
	defer func() {
		switch left := recover().(type) {
		case nil:
		case *api.Fault:
			program, err = tree.Program{}, left
		default:
			panic(left)
		}
	}()
	r := &reader{src: src, now: scan(src, 0), ops: tree.Ops(), relations: tree.Relations()}
	return r.program(), nil
}

func (r *reader) program() tree.Program {
	all := r.statements()
	if r.now.kind != end {
		panic(r.fault(api.ErrSyntax))
	}
	return tree.Program{Block: all, End: r.points, Sites: int(r.sites), Numbers: r.numbers}
}

// statements reads on as long as a statement may begin: each begins with a word.
func (r *reader) statements() tree.Block {
	var all tree.Block
	for r.now.kind == word {
		all = append(all, r.statement())
	}
	return all
}

// statement takes its point as it begins, ahead of those within it.
func (r *reader) statement() tree.Statement {
	point := r.points
	r.points++
	switch r.now.text {
	case "read":
		return r.read(point)
	case "assert":
		return r.assert(point)
	case "if":
		return r.branch(point)
	case "while":
		return r.loop(point)
	}
	return r.assign(point)
}

func (r *reader) assign(point tree.Point) tree.Statement {
	name := r.name()
	r.take("=")
	sum := r.sum()
	r.take(";")
	return tree.Assign{Point: point, Name: name, Sum: sum}
}

func (r *reader) read(point tree.Point) tree.Statement {
	r.take("read")
	name := r.name()
	r.take(";")
	return tree.Read{Point: point, Name: name}
}

func (r *reader) assert(point tree.Point) tree.Statement {
	r.take("assert")
	site := r.site()
	cond := r.cond()
	r.take(";")
	return tree.Assert{Point: point, Site: site, Cond: cond}
}

func (r *reader) branch(point tree.Point) tree.Statement {
	r.take("if")
	node := tree.If{Point: point, Cond: r.cond()}
	node.Then = r.block()
	if r.now.text == "else" {
		r.take("else")
		node.HasElse = true
		node.Else = r.block()
	}
	return node
}

func (r *reader) loop(point tree.Point) tree.Statement {
	r.take("while")
	cond := r.cond()
	return tree.While{Point: point, Cond: cond, Block: r.block()}
}

func (r *reader) block() tree.Block {
	r.enter("{")
	all := r.statements()
	r.take("}")
	r.open--
	return all
}

func (r *reader) cond() tree.Cond {
	left := r.sum()
	relation, ok := r.relations[r.now.text]
	if !ok {
		panic(r.fault(api.ErrSyntax))
	}
	r.step()
	return tree.Cond{Relation: relation, Left: left, Right: r.sum()}
}

func (r *reader) sum() tree.Sum { return r.chain(tree.Sums, r.product) }

func (r *reader) product() tree.Sum { return r.chain(tree.Products, r.unary) }

// chain reads what stands between the signs of one level, and puts it together from the left on.
func (r *reader) chain(level tree.Level, part func() tree.Sum) tree.Sum {
	left := part()
	for {
		op, ok := r.ops[r.now.text]
		if !ok || op.Level() != level {
			return left
		}
		r.step()
		node := tree.Binary{Op: op, Left: left}
		if op.HasSite() {
			node.Site = r.site()
		}
		node.Right = part()
		left = node
	}
}

func (r *reader) unary() tree.Sum {
	switch {
	case r.now.kind == number:
		return r.number()
	case r.now.kind == word:
		return r.name()
	case r.now.text == "-":
		return r.negation()
	}
	return r.bracketed()
}

func (r *reader) negation() tree.Sum {
	r.enter("-")
	of := r.unary()
	r.open--
	return tree.Negation{Of: of}
}

func (r *reader) bracketed() tree.Sum {
	r.enter("(")
	sum := r.sum()
	r.take(")")
	r.open--
	return sum
}

func (r *reader) number() tree.Number {
	text := r.now.text
	n, err := strconv.ParseInt(text, 10, 16)
	if err != nil || len(text) > 1 && text[0] == '0' {
		panic(r.fault(api.ErrSyntax))
	}
	r.step()
	r.numbers = append(r.numbers, tree.Number(n))
	return tree.Number(n)
}

func (r *reader) name() tree.Name {
	text := r.now.text
	if r.now.kind != word || len(text) != 1 || text[0] >= 'a'+api.Names {
		panic(r.fault(api.ErrSyntax))
	}
	r.step()
	return tree.Name(text[0] - 'a')
}

// site is the number of the one whose sign or word has just been taken.
func (r *reader) site() tree.Site {
	site := r.sites
	r.sites++
	return site
}

// enter takes a token that is open from here on.
func (r *reader) enter(text string) {
	r.need(text)
	if r.open == api.MaxDepth {
		panic(r.fault(api.ErrDepth))
	}
	r.open++
	r.step()
}

func (r *reader) take(text string) {
	r.need(text)
	r.step()
}

func (r *reader) need(text string) {
	if r.now.text != text {
		panic(r.fault(api.ErrSyntax))
	}
}

func (r *reader) step() { r.now = scan(r.src, r.now.At+len(r.now.text)) }

// fault is one at the token that is not taken yet.
func (r *reader) fault(err api.Errno) *api.Fault {
	return &api.Fault{Place: r.now.Place, Err: err}
}
