package calls

import (
	"teasel/api"
	"teasel/code"
)

// stops are those that there were, and behind them those of what is done in place.
type stops struct {
	all  [][]api.Spot
	both map[[2]int]int // of a stop and that of a call the stop that has the frames of both
}

func newStops(c api.Code) *stops {
	return &stops{all: code.Copy(api.Code{Stops: c.Stops}).Stops, both: map[[2]int]int{}}
}

// of answers the stop of what was at a stop in a function that is called at another one.
func (s *stops) of(inner, call int) int {
	key := [2]int{inner, call}
	n, had := s.both[key]
	if !had {
		var frames []api.Spot
		frames = append(frames, s.all[inner]...)
		frames = append(frames, s.all[call]...)
		n = len(s.all)
		s.all = append(s.all, frames)
		s.both[key] = n
	}
	return n
}
