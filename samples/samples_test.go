package samples_test

import (
	"testing"

	"teasel/api"
	"teasel/samples"
	"teasel/tree"
	"teasel/types"
)

func TestTextsAreRightWithoutFaults(t *testing.T) {
	for seed := range uint64(2000) {
		s := samples.Text(seed, 0)
		p, at, e := tree.Parse(s)
		if e != api.OK {
			t.Fatalf("%d at %d of\n%s", e, at, s)
		}
		if _, at, e := types.Check(p); e != api.OK {
			t.Fatalf("%d at %d of\n%s", e, at, s)
		}
	}
}

func TestTextsWithFaultsParse(t *testing.T) {
	had := map[api.Errno]bool{}
	for seed := range uint64(4000) {
		s := samples.Text(seed, 10)
		p, at, e := tree.Parse(s)
		if e != api.OK {
			t.Fatalf("%d at %d of\n%s", e, at, s)
		}
		_, _, e = types.Check(p)
		had[e] = true
	}
	for _, e := range []api.Errno{api.OK, api.ErrArg, api.ErrForm, api.ErrName, api.ErrTwice, api.ErrType, api.ErrCount, api.ErrInit, api.ErrReach, api.ErrReturn, api.ErrMain} {
		if !had[e] {
			t.Errorf("no text has the error %d", e)
		}
	}
}

func TestOneNumberMakesOneText(t *testing.T) {
	if samples.Text(5, 3) != samples.Text(5, 3) || samples.Text(5, 0) == samples.Text(6, 0) {
		t.Error("texts don't hang on their numbers alone")
	}
}
