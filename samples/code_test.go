package samples_test

import (
	"reflect"
	"testing"

	"teasel/api"
	"teasel/code"
	"teasel/samples"
)

func TestCodeIsRightWithoutFaults(t *testing.T) {
	ops := map[byte]bool{}
	loops := 0
	for seed := range uint64(3000) {
		vars := int(seed % 4)
		c := samples.Code(seed, vars, 0)
		if e := code.Check(c); e != api.OK {
			t.Fatalf("%d: %d of %+v", seed, e, c)
		}
		if vars == 0 && !code.Plain(c) {
			t.Fatal("it has variables", seed)
		}
		for _, f := range c.Funs {
			for i, b := range f.Blocks {
				if b.End == api.GoTo && b.To <= i {
					loops++
				}
				for _, x := range append(b.Phis, b.Insts...) {
					ops[x.Op] = true
				}
			}
		}
	}
	for op := range byte(50) {
		if _, _, is := code.Shape(op); is && !ops[op] {
			t.Error("no code has the Op", op)
		}
	}
	if loops < 500 {
		t.Error("code has few loops", loops)
	}
}

// TestWays: they are right, some have many blocks, most of which have variables, and of many runs ways lead back.
func TestWays(t *testing.T) {
	most, uses, back := 0, 0, 0
	for seed := range uint64(300) {
		c := samples.Ways(seed, 40, 6)
		if e := code.Check(c); e != api.OK {
			t.Fatalf("%d: %d of %+v", seed, e, c)
		}
		for _, f := range c.Funs {
			most = max(most, len(f.Blocks))
			for i, b := range f.Blocks {
				if b.End == api.GoTo && b.To <= i || b.End == api.Branch && min(b.To, b.Else) <= i {
					back++
				}
				for _, x := range b.Insts {
					if x.Op == api.ISet {
						uses++
						break
					}
				}
			}
		}
	}
	if most != 40 || uses < 5000 || back < 500 {
		t.Error(most, uses, back)
	}
}

func TestCodeWithFaults(t *testing.T) {
	wrong := 0
	for seed := range uint64(3000) {
		if code.Check(samples.Code(seed, 2, 2)) != api.OK {
			wrong++
		}
	}
	if wrong < 1000 || wrong > 2900 {
		t.Error("of 3000 codes so many are wrong:", wrong)
	}
}

func TestOneNumberMakesOneCode(t *testing.T) {
	if !reflect.DeepEqual(samples.Code(5, 2, 3), samples.Code(5, 2, 3)) || reflect.DeepEqual(samples.Code(5, 0, 0), samples.Code(6, 0, 0)) {
		t.Error("code doesn't hang on its number alone")
	}
	if !reflect.DeepEqual(samples.Ways(5, 9, 3), samples.Ways(5, 9, 3)) || reflect.DeepEqual(samples.Ways(5, 9, 3), samples.Ways(6, 9, 3)) {
		t.Error("ways don't hang on their number alone")
	}
}
