package emit_test

import (
	"testing"

	"teasel/api"
	"teasel/emit"
	"teasel/samples"
)

// TestCodeByChance: each way in which a run ends, with the state at each mark, with all and without.
func TestCodeByChance(t *testing.T) {
	t.Parallel()
	for _, all := range []bool{false, true} {
		had := map[byte]int{}
		for seed := range uint64(1600) {
			input := []int64{3, -1, 0, int64(seed), 7, 1, -1 << 63, 2, 5, 1, 1}[:seed%12]
			had[newHolder(t, samples.Code(seed, 0, 0), all).holdRun(t, input, 300)]++
		}
		for end := byte(api.Halt); end <= api.Wrong; end++ {
			if had[end] < 3 && end != api.StopCall {
				t.Errorf("only %d of the runs end with %d", had[end], end)
			}
		}
	}
}

// TestKindsOfCodeByChance: of few things, of calls of small functions, of loops, and rows of values that tell each other.
func TestKindsOfCodeByChance(t *testing.T) {
	t.Parallel()
	for _, all := range []bool{false, true} {
		had := map[byte]int{}
		for seed := range uint64(500) {
			for _, c := range []api.Code{samples.Plain(seed, 1+int(seed%30)), samples.Calls(seed, 1+int(seed%9)), samples.Loops(seed, 1+int(seed%25)), samples.Rows(seed)} {
				h := newHolder(t, c, all)
				for way := range uint64(3) {
					had[h.holdRun(t, samples.Bits(seed*4+way, int(seed%40)), 300)]++
				}
			}
		}
		if had[api.Halt] < 2000 || had[api.TrapZero] < 300 || had[api.TrapIn] < 100 || had[api.StopFuel] < 500 {
			t.Error(had)
		}
	}
}

// TestPassedCodeByChance: what passes make, and what they make of programs.
func TestPassedCodeByChance(t *testing.T) {
	t.Parallel()
	for seed := range uint64(900) {
		c := mustPass(t, plainCode(t, seed), byte(seed*13)%64)
		h := newHolder(t, c, seed%3 == 0)
		for way := range uint64(2) {
			h.holdRun(t, samples.Bits(seed*2+way, int(seed%40)), 400)
		}
	}
}

// FuzzCompile takes texts of programs as they come, and by their numbers.
func FuzzCompile(f *testing.F) {
	f.Add("fn main(): int { let x: int = read(); while x > 0 { print x; x = x - 1; } return x; }", uint64(0), byte(63), int64(3))
	f.Add("", uint64(7), byte(0), int64(-1))
	f.Fuzz(func(t *testing.T, s string, seed uint64, opt byte, n int64) {
		if s == "" {
			s = samples.Text(seed, int(seed%3))
		}
		if _, _, e := emit.Compile(s, opt); e == api.OK {
			newTwin(t, s, opt).hold(t, []int64{n, 1, 0, -n, 3}, 500)
		}
	})
}

// FuzzImage takes code by its number, passes and input.
func FuzzImage(f *testing.F) {
	f.Add(uint64(3), byte(63), false, uint64(9), 20)
	f.Add(uint64(1), byte(0), true, uint64(2), 5)
	f.Fuzz(func(t *testing.T, seed uint64, opt byte, all bool, way uint64, n int) {
		c := mustPass(t, plainCode(t, seed), opt%64)
		newHolder(t, c, all).holdRun(t, samples.Bits(way, max(0, min(n, 200))), 400)
	})
}
