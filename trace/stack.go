package trace

// stack is numbers of all calls that are open, of each behind those of the call that made it; those of the innermost one begin at base. A call has as many as were set; what isn't set is 0.
type stack struct {
	list []int64
	base int
}

func (s *stack) get(n int) int64 {
	if at := s.base + n; at < len(s.list) {
		return s.list[at]
	}
	return 0
}

func (s *stack) set(n int, x int64) {
	at := s.base + n
	for at >= len(s.list) {
		s.list = append(s.list, 0)
	}
	s.list[at] = x
}

// open begins those of a new call, and answers where those of the one that made it begin.
func (s *stack) open() int {
	outer := s.base
	s.base = len(s.list)
	return outer
}

// leave drops those of the innermost call; the ones of the call that made it begin at outer.
func (s *stack) leave(outer int) {
	s.list = s.list[:s.base]
	s.base = outer
}
