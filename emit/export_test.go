package emit

import (
	"teasel/alloc"
	"teasel/api"
)

// ByFerry answers the image of plain code in which a ferry goes wherever one can, if there is room for it, and time.
func ByFerry(c api.Code, all bool) (api.Image, bool) {
	parted, _ := alloc.Split(c)
	m := builder{code: parted, all: all, ferries: true, bare: map[int]int{}}
	return m.build(c)
}
