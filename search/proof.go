package search

import (
	"strconv"

	"assay/sink"
)

// proof writes the lines of a proof.
type proof struct {
	out  sink.Sink
	line []byte
}

// add writes the addition of a clause.
func (p *proof) add(literals []int) error {
	return p.write("", literals)
}

// delete writes the deletion of a clause.
func (p *proof) delete(literals []int) error {
	return p.write("d ", literals)
}

func (p *proof) write(start string, literals []int) error {
	p.line = append(p.line[:0], start...)
	for _, literal := range literals {
		p.line = strconv.AppendInt(p.line, int64(writtenOf(literal)), 10)
		p.line = append(p.line, ' ')
	}
	p.line = append(p.line, "0\n"...)
	_, err := p.out.Write(p.line)
	return err
}
