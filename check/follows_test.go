package check_test

import (
	"errors"
	"math/rand/v2"
	"testing"

	"warrant/api"
	"warrant/check"
)

// told is the error of a call, and its place: 0 and noPlace, if there is none.
func told(t *testing.T, err error) refFault {
	t.Helper()
	if err == nil {
		return refFault{0, noPlace}
	}
	var no api.Errno
	var at *api.At
	if !errors.As(err, &no) {
		t.Fatalf("%+v is no Errno", err)
	}
	if !errors.As(err, &at) {
		return refFault{no, noPlace}
	}
	return refFault{no, at.Pos}
}

// Rules are well formed each by itself: of several the first that isn't tells
// what is wrong, whichever stand about it.
func TestP13_3EachByItself(t *testing.T) {
	chance := rand.New(rand.NewPCG(13, 3))
	right := 0
	for range 10000 {
		l := anyRules(chance, 8, chance.IntN(4))
		for range chance.IntN(4) {
			bend(chance, l)
		}
		want := refFault{0, noPlace}
		for i := len(l) - 1; i >= 0; i-- {
			if one := told(t, check.Check(l[i:i+1])); one.no != 0 {
				want = one
			}
		}
		if got := told(t, check.Check(l)); got != want {
			t.Errorf("Check(%.900s): %v, by themselves %v", show(l), got, want)
		}
		if want.no == 0 {
			right++
			chance.Shuffle(len(l), func(i, j int) { l[i], l[j] = l[j], l[i] })
			isChecked(t, l, 0, 0)
			isChecked(t, append(rules(), append(l, l...)...), 0, 0)
		}
	}
	if right < 2000 {
		t.Errorf("%d were well formed", right)
	}
}

// An expression that is well formed stays so without its not; one that isn't
// tells the same with a not; with one of a number or a text the not is wrong.
func TestP13_3WithoutItsNot(t *testing.T) {
	chance := rand.New(rand.NewPCG(13, 30))
	right := 0
	for range 20000 {
		e := anyExpr(chance, anyOf(chance, isTruth, isTruth, isTruth, isNumber, isText, isAny), chance.IntN(5))
		for range chance.IntN(3) {
			bendExpr(chance, &e)
		}
		kind, err := check.Kind(e)
		of, bare := check.Kind(at(5000, not(e)))
		switch want := told(t, err); {
		case bare == nil:
			right++
			if of != isTruth || err != nil || kind != isTruth && kind != isAny {
				t.Errorf("Kind(%.900s): %d, %+v, with a not %d", show(e), kind, err, of)
			}
		case err != nil && told(t, bare) != want:
			t.Errorf("Kind(%.900s): %v, with a not %v", show(e), want, told(t, bare))
		case err == nil && told(t, bare) != refFault{api.ErrType, 5000}:
			t.Errorf("Kind of a not of %.900s: %v", show(e), told(t, bare))
		}
		r, without := permit(1, nil, at(5000, not(e))), permit(1, nil, e)
		if check.Check(rules(r)) == nil && check.Check(rules(without)) != nil {
			t.Errorf("Check of %.900s", show(e))
		}
	}
	if right < 5000 {
		t.Errorf("%d were well formed", right)
	}
	for n := range 200 {
		isKind(t, within(6, 0, n, truth(1)), isTruth)
	}
}
