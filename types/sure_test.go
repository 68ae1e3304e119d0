package types_test

import (
	"testing"

	"teasel/api"
)

func TestVariablesThatAreNotSure(t *testing.T) {
	table{
		"let x: int = 1; print x;":                 api.OK,
		"let x: int; x = 1; print x;":              api.OK,
		"let a: arr[2]; print a[0]; print len(a);": api.OK,
		"let x: int; x = @x;":                      api.ErrInit,
		"let x: int; print 1 + @x;":                api.ErrInit,
		"let x: int; let y: int = @x;":             api.ErrInit,
		"let x: int; if @x == 1 { }":               api.ErrInit,
		"let x: bool; while @x { x = true; }":      api.ErrInit,
		"let x: int; mix(@x, true, x);":            api.ErrInit,
		"let x: int; let a: arr[2]; print a[@x];":  api.ErrInit,
		"let x: int; let a: arr[2]; a[@x] = 1;":    api.ErrInit,
		"let x: int; let a: arr[2]; a[1] = @x;":    api.ErrInit,
		"let x: bool; print false && @x;":          api.ErrInit,
	}.want(t, "")
	wantText(t, "fn f(p: int, q: bool, r: arr) { print p; print q; print r[0]; } fn main(): int { return 0; }", api.OK)
	wantText(t, "fn f() { let x: int = 1; } fn main(): int { let y: bool; let x: int; return @x; }", api.ErrInit)
}

// TestWaysThroughIfs: what is sure behind an if is so on every way that leads there.
func TestWaysThroughIfs(t *testing.T) {
	table{
		"if c { x = 1; } print @x;":                                                api.ErrInit,
		"if c { } else { x = 1; } print @x;":                                       api.ErrInit,
		"if c { x = 1; } else { } print @x;":                                       api.ErrInit,
		"if c { x = 1; } else { x = 2; } print x;":                                 api.OK,
		"if c { x = 1; } else { print @x; }":                                       api.ErrInit,
		"if c { x = 1; print x; }":                                                 api.OK,
		"if c { x = 1; } else { y = 1; } print @y;":                                api.ErrInit,
		"if true { x = 1; } print @x;":                                             api.ErrInit,
		"if false { } else { x = 1; } print @x;":                                   api.ErrInit,
		"x = 1; if c { } else { } print x;":                                        api.OK,
		"x = 1; if c { y = 1; } else { } print x; print @y;":                       api.ErrInit,
		"if c { return 1; } print @x;":                                             api.ErrInit,
		"if c { return 1; } else { x = 1; } print x;":                              api.OK,
		"if c { x = 1; } else { return 1; } print x;":                              api.OK,
		"if c { return 1; } else { } print @x;":                                    api.ErrInit,
		"if c { x = 1; } else { return 1; } print x; print @y;":                    api.ErrInit,
		"if c { x = 1; return 1; } else { y = 1; } print y; print @x;":             api.ErrInit,
		"if c { y = 1; } else { x = 1; return 1; } print y; print @x;":             api.ErrInit,
		"if c { x = 1; return 1; } print @x;":                                      api.ErrInit,
		"if c { if c { x = 1; } else { x = 2; } } else { x = 3; } print x;":        api.OK,
		"if c { if c { x = 1; } } else { x = 3; } print @x;":                       api.ErrInit,
		"if c { if c { return 1; } else { return 2; } } else { x = 1; } print x;":  api.OK,
		"if c { x = 1; } else { if c { return 1; } else { return 2; } } print x;":  api.OK,
		"if c { if c { return 1; } x = 1; } else { x = 3; } print x;":              api.OK,
		"if c { if c { x = 1; } else { return 1; } } else { x = 3; } print x;":     api.OK,
		"if c { x = 1; } if c { print @x; }":                                       api.ErrInit,
		"if c { x = 1; } else { x = 2; } if c { y = x; } else { y = 3; } print y;": api.OK,
	}.want(t, "let c: bool = true; let x: int; let y: int; ")
}

// TestWaysThroughWhiles: a while's block counts for nothing behind it.
func TestWaysThroughWhiles(t *testing.T) {
	table{
		"while c { x = 1; } print @x;":                                   api.ErrInit,
		"while true { x = 1; } print @x;":                                api.ErrInit,
		"while c { x = 1; print x; }":                                    api.OK,
		"while c { print @x; x = 1; }":                                   api.ErrInit,
		"x = 1; while c { print x; y = 1; } print x; print @y;":          api.ErrInit,
		"while c { if c { x = 1; } else { x = 2; } print x; } print @x;": api.ErrInit,
		"while c { x = 1; return 1; } print @x;":                         api.ErrInit,
		"while c { return 1; } x = 1; print x;":                          api.OK,
		"while c { let z: int; if c { z = 1; } print @z; }":              api.ErrInit,
		"while c { let z: int; z = 1; print z; while c { print z; } }":   api.OK,
		"if c { while c { x = 1; } } else { x = 2; } print @x;":          api.ErrInit,
		"if c { while c { } x = 1; } else { x = 2; } print x;":           api.OK,
		"while c { while c { x = 1; } print @x; }":                       api.ErrInit,
	}.want(t, "let c: bool = true; let x: int; let y: int; ")
}

// TestPointsOfWhiles: a while, and what stands in its block, are seen as they are when they are first come to.
func TestPointsOfWhiles(t *testing.T) {
	info := knownOf(t, "fn main(): int { let x: int; let i: int = 0; while i < 2 { print i; let y: int; x = i; y = 1; i = i + 1; } return i; }")
	for stmt, want := range map[int][2][]int{
		3: {{0, 1}, {1}}, 4: {{0, 1}, {1}}, 5: {{0, 1}, {1}}, 6: {{0, 1, 2}, {1}}, 7: {{0, 1, 2}, {0, 1}}, 8: {{0, 1, 2}, {0, 1, 2}}, 9: {{0, 1}, {1}},
	} {
		if p := info.Points[stmt]; !same(api.Info{Points: []api.Point{p}}, api.Info{Points: []api.Point{{Seen: want[0], Sure: want[1]}}}) {
			t.Errorf("at the statement %d: %v, want %v", stmt, p, want)
		}
	}
}
