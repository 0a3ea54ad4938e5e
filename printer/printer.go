// Package printer: from a program's tree to its one form as a text.
package printer

import (
	"strconv"
	"strings"

	"invariants/tree"
)

// printer gathers the lines.
type printer struct {
	strings.Builder
	blocks int // those in which the next line stands
}

// Text is the program in its one form.
func Text(program tree.Block) string {
	p := &printer{}
	p.statements(program)
	return p.String()
}

func (p *printer) statements(all tree.Block) {
	for _, s := range all {
		p.statement(s)
	}
}

func (p *printer) statement(s tree.Statement) {
	switch s := s.(type) {
	case tree.Assign:
		p.line(s.Name.Text(), " = ", sum(s.Sum), ";")
	case tree.Read:
		p.line("read ", s.Name.Text(), ";")
	case tree.Assert:
		p.line("assert ", cond(s.Cond), ";")
	case tree.If:
		p.branch(s)
	case tree.While:
		p.line("while ", cond(s.Cond), " {")
		p.inner(s.Block)
		p.line("}")
	}
}

func (p *printer) branch(s tree.If) {
	p.line("if ", cond(s.Cond), " {")
	p.inner(s.Then)
	if s.HasElse {
		p.line("} else {")
		p.inner(s.Else)
	}
	p.line("}")
}

func (p *printer) inner(block tree.Block) {
	p.blocks++
	p.statements(block)
	p.blocks--
}

func (p *printer) line(parts ...string) {
	for range p.blocks {
		p.WriteString("  ")
	}
	for _, part := range parts {
		p.WriteString(part)
	}
	p.WriteString("\n")
}

func cond(c tree.Cond) string { return sum(c.Left) + " " + c.Sign() + " " + sum(c.Right) }

func sum(s tree.Sum) string {
	switch s := s.(type) {
	case tree.Number:
		return strconv.Itoa(int(s))
	case tree.Name:
		return s.Text()
	case tree.Negation:
		return "-" + part(s.Of, tree.Unaries)
	case tree.Binary:
		// A chain is read from the left on, so only its right side asks for the next level.
		return part(s.Left, s.Level()) + " " + s.Sign() + " " + part(s.Right, s.Level()+1)
	}
	return ""
}

// part is a sum where the grammar reads one of the least level: with round brackets, if it would be torn apart there.
func part(s tree.Sum, least tree.Level) string {
	if s.Level() < least {
		return "(" + sum(s) + ")"
	}
	return sum(s)
}
