package print

import (
	"strings"

	"pallet/api"
	"pallet/lex"
)

// step is what stands ahead of a line for each block around it.
const step = "  "

// printer builds the text of statements that may be.
type printer struct {
	strings.Builder
}

// list writes statements, ahead of each of which stand the spaces of the blocks around it.
func (p *printer) list(l []api.Stmt, spaces string) {
	for _, x := range l {
		p.WriteString(spaces)
		p.line(x)
		p.WriteString("\n")
		if x.Block {
			p.list(x.Body, spaces+step)
			p.WriteString(spaces + "}\n")
		}
	}
}

// line writes a statement without its Body.
func (p *printer) line(x api.Stmt) {
	p.WriteString(x.Word)
	for _, n := range x.Nums {
		// The number is one of a statement that may be, so that there is no error.
		s, _ := lex.Text(api.Token{Kind: api.NumberK, N: n.N, Time: n.Time})
		p.WriteString(" " + s)
	}
	if x.Block {
		p.WriteString(" {")
	} else {
		p.WriteString(";")
	}
}
