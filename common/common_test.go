package common_test

import (
	"testing"

	"keelblock/api"
	"keelblock/common"
	"keelblock/exact"
)

func TestIsName(t *testing.T) {
	for name, wanted := range map[string]bool{
		"a": true, "Z": true, "a1-": true, "Abcdefghi-99": true, "a-------zAZ0": true,
		"": false, "1": false, "-a": false, "Abcdefghi-999": false, "a b": false, "a_": false, "a/": false, "a:": false,
		"a@": false, "a[": false, "a`": false, "a{": false, "@": false, "[": false, "`": false, "{": false, "aé": false, "é": false, "a\n": false,
	} {
		if common.IsName(name) != wanted {
			t.Errorf("%q is a name: %v", name, !wanted)
		}
	}
}

func TestBounds(t *testing.T) {
	for n, wanted := range map[int]bool{-1000001: false, -1000000: true, 0: true, 1000000: true, 1000001: false} {
		if common.IsPlace(n) != wanted {
			t.Errorf("%d is a place: %v", n, !wanted)
		}
	}
	for n, wanted := range map[int]bool{2: false, 3: true, 4: true, 5: true, 6: false} {
		if common.Within(n, 3, 5) != wanted {
			t.Errorf("%d is within 3 and 5: %v", n, !wanted)
		}
	}
}

func TestFirstError(t *testing.T) {
	if e := common.FirstError(api.OK, api.ErrTip, api.OK, api.ErrSink); e != api.ErrTip {
		t.Errorf("the first error is %d", e)
	}
	if e := common.FirstError(api.OK, api.OK); e != api.OK {
		t.Errorf("no error is %d", e)
	}
}

func TestNumbers(t *testing.T) {
	half := common.Ratio(-3, 6)
	for _, x := range []struct {
		got    api.Rat
		wanted string
	}{
		{half, "-1/2"}, {common.Whole(-7), "-7"}, {common.Times(half, 3), "-3/2"}, {common.Over(half, common.Whole(-2)), "1/4"},
	} {
		if text := exact.FormatRat(x.got); text != x.wanted {
			t.Errorf("%s, want %s", text, x.wanted)
		}
	}
	if common.Sign(half) != -1 || common.Sign(api.Rat{}) != 0 || common.Sign(common.Whole(5)) != 1 {
		t.Error("a wrong sign")
	}
}
