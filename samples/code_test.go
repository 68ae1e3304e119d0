package samples_test

import (
	"reflect"
	"testing"

	"teasel/api"
	"teasel/code"
	"teasel/samples"
)

func TestCodeIsRightWithoutFaults(t *testing.T) {
	ops := map[byte]bool{}
	loops := 0
	for seed := range uint64(3000) {
		vars := int(seed % 4)
		c := samples.Code(seed, vars, 0)
		if e := code.Check(c); e != api.OK {
			t.Fatalf("%d: %d of %+v", seed, e, c)
		}
		if vars == 0 && !code.Plain(c) {
			t.Fatal("it has variables", seed)
		}
		for _, f := range c.Funs {
			for i, b := range f.Blocks {
				if b.End == api.GoTo && b.To <= i {
					loops++
				}
				for _, x := range append(b.Phis, b.Insts...) {
					ops[x.Op] = true
				}
			}
		}
	}
	for op := range byte(50) {
		if _, _, is := code.Shape(op); is && !ops[op] {
			t.Error("no code has the Op", op)
		}
	}
	if loops < 500 {
		t.Error("code has few loops", loops)
	}
}

func TestCodeWithFaults(t *testing.T) {
	wrong := 0
	for seed := range uint64(3000) {
		if code.Check(samples.Code(seed, 2, 2)) != api.OK {
			wrong++
		}
	}
	if wrong < 1000 || wrong > 2900 {
		t.Error("of 3000 codes so many are wrong:", wrong)
	}
}

func TestOneNumberMakesOneCode(t *testing.T) {
	if !reflect.DeepEqual(samples.Code(5, 2, 3), samples.Code(5, 2, 3)) || reflect.DeepEqual(samples.Code(5, 0, 0), samples.Code(6, 0, 0)) {
		t.Error("code doesn't hang on its number alone")
	}
}
