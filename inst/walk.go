package inst

import (
	"teasel/api"
	"teasel/packed"
)

// walk goes through an instruction in the order of its bytes, by the method values of a writer, which leaves the instruction as it is, or of a reader, which puts there what it reads.
type walk struct {
	one      func(b *byte) error
	signed   func(n *int64) error
	unsigned func(n *int64) error
}

// word holds what was written, or read, by what is right: so both know the same instructions.
func (k walk) word(w *api.Word) error {
	if err := k.one(&w.Op); err != nil {
		return err
	}
	s, is := shapeOf(w.Op)
	if !is {
		return packed.Wrong
	}
	for _, r := range []*byte{&w.A, &w.B, &w.C}[:s.regs] {
		if err := k.one(r); err != nil {
			return err
		}
	}
	if err := k.imm(s, &w.Imm); err != nil {
		return err
	}
	return packed.Unless(Form(*w))
}

func (k walk) imm(s shape, n *int64) error {
	switch {
	case s.least < 0:
		return k.signed(n)
	case s.most > 0:
		return k.unsigned(n)
	}
	return nil
}
