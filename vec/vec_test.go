package vec_test

import (
	"math"
	"math/rand"
	"testing"

	"corvee/api"
	"corvee/vec"
)

const top = api.MaxRes

var strange = []api.Vec{{-1}, {0, 0, 0, -1}, {0, top + 1}, {math.MinInt}, {0, 0, math.MaxInt}}

// P3.1

func TestRight(t *testing.T) {
	for _, v := range []api.Vec{{}, {1, 2, 3, 4}, {top, top, top, top}} {
		if !vec.Right(v) {
			t.Error(v)
		}
	}
	for _, v := range strange {
		if vec.Right(v) {
			t.Error(v)
		}
	}
}

func TestAdd(t *testing.T) {
	for _, c := range []struct {
		a, b, want api.Vec
		e          api.Errno
	}{
		{api.Vec{1, 0, 2, 0}, api.Vec{1, 5, 0, 0}, api.Vec{2, 5, 2, 0}, api.OK},
		{api.Vec{top - 1, 0, 0, top}, api.Vec{1, 0, 0, 0}, api.Vec{top, 0, 0, top}, api.OK},
		{api.Vec{1, 0, 0, top}, api.Vec{0, 0, 0, 1}, api.Vec{}, api.ErrOver},
		{api.Vec{top}, api.Vec{top}, api.Vec{}, api.ErrOver},
		{api.Vec{-1}, api.Vec{2}, api.Vec{}, api.ErrArg},
		{api.Vec{2}, api.Vec{-1}, api.Vec{}, api.ErrArg},
		{api.Vec{top}, api.Vec{1, -1}, api.Vec{}, api.ErrArg},
	} {
		if v, e := vec.Add(c.a, c.b); v != c.want || e != c.e {
			t.Error(c, v, e)
		}
	}
}

func TestSub(t *testing.T) {
	for _, c := range []struct {
		a, b, want api.Vec
		e          api.Errno
	}{
		{api.Vec{2, 5, 2, 0}, api.Vec{1, 5, 0, 0}, api.Vec{1, 0, 2, 0}, api.OK},
		{api.Vec{top}, api.Vec{top}, api.Vec{}, api.OK},
		{api.Vec{1, 0, 0, 0}, api.Vec{0, 1, 0, 0}, api.Vec{}, api.ErrUnder},
		{api.Vec{9, 9, 9, 1}, api.Vec{0, 0, 0, 2}, api.Vec{}, api.ErrUnder},
		{api.Vec{-1}, api.Vec{-2}, api.Vec{}, api.ErrArg},
		{api.Vec{1}, api.Vec{top + 1}, api.Vec{}, api.ErrArg},
	} {
		if v, e := vec.Sub(c.a, c.b); v != c.want || e != c.e {
			t.Error(c, v, e)
		}
	}
}

func TestTimes(t *testing.T) {
	for _, c := range []struct {
		v    api.Vec
		n    int
		want api.Vec
		e    api.Errno
	}{
		{api.Vec{1, 0, 3, 0}, 4, api.Vec{4, 0, 12, 0}, api.OK},
		{api.Vec{1, 2, 3, top}, 0, api.Vec{}, api.OK},
		{api.Vec{1}, top, api.Vec{top}, api.OK},
		{api.Vec{1}, top + 1, api.Vec{}, api.ErrOver},
		{api.Vec{0, 0, 0, top / 2}, 2, api.Vec{0, 0, 0, top}, api.OK},
		{api.Vec{0, 0, 0, top/2 + 1}, 2, api.Vec{}, api.ErrOver},
		{api.Vec{top}, math.MaxInt, api.Vec{}, api.ErrOver},
		{api.Vec{4}, 1 << 62, api.Vec{}, api.ErrOver},
		{api.Vec{}, math.MaxInt, api.Vec{}, api.OK},
		{api.Vec{1}, -1, api.Vec{}, api.ErrArg},
		{api.Vec{0, -1}, 0, api.Vec{}, api.ErrArg},
	} {
		if v, e := vec.Times(c.v, c.n); v != c.want || e != c.e {
			t.Error(c, v, e)
		}
	}
}

// P3.2

func TestFitsAndLeast(t *testing.T) {
	for _, c := range []struct {
		a, b  api.Vec
		fits  bool
		least api.Vec
	}{
		{api.Vec{1, 2, 3, 4}, api.Vec{1, 2, 3, 4}, true, api.Vec{1, 2, 3, 4}},
		{api.Vec{1, 2, 3, 4}, api.Vec{1, 2, 3, 3}, false, api.Vec{1, 2, 3, 3}},
		{api.Vec{2, 0, 0, 0}, api.Vec{1, 9, 9, 9}, false, api.Vec{1, 0, 0, 0}},
		{api.Vec{-5, 0, 0, 0}, api.Vec{-4, 0, 0, 0}, true, api.Vec{-5, 0, 0, 0}},
		{api.Vec{math.MaxInt, 0, 0, math.MinInt}, api.Vec{math.MinInt, 0, 0, math.MaxInt}, false, api.Vec{math.MinInt, 0, 0, math.MinInt}},
		{api.Vec{math.MinInt}, api.Vec{math.MaxInt}, true, api.Vec{math.MinInt}},
	} {
		if vec.Fits(c.a, c.b) != c.fits || vec.Least(c.a, c.b) != c.least {
			t.Error(c, vec.Fits(c.a, c.b), vec.Least(c.a, c.b))
		}
	}
}

// P3.3

func TestText(t *testing.T) {
	for s, v := range map[string]api.Vec{
		"0,0,0,0": {}, "1,2,3,4": {1, 2, 3, 4}, "-1,1073741825,0,-9223372036854775808": {-1, top + 1, 0, math.MinInt},
	} {
		if got := vec.Text(v); got != s {
			t.Error(got, s)
		}
	}
}

func TestRead(t *testing.T) {
	for s, want := range map[string]api.Vec{
		"1,2,3,4": {1, 2, 3, 4}, "0,0,0,0": {}, "1073741824,0,10,0": {top, 0, 10, 0},
	} {
		if v, e := vec.Read(s); v != want || e != api.OK {
			t.Error(s, v, e)
		}
	}
	for _, s := range []string{
		"", "1", "1,2,3", "1,2,3,4,5", "01,2,3,4", "1,2,3,00", "1,,3,4", ",,,", "1,2,3,4 ", " 1,2,3,4", "1,2,3,+4", "-1,2,3,4", "1,2,-0,4",
		"1073741825,0,0,0", "0,0,0,9999999999", "0,0,0,00000000001", "0,0,0,10000000000", "18446744073709551617,0,0,0", "1,2,3,4\n", "a,b,c,d", "1;2;3;4", "١,0,0,0",
	} {
		if v, e := vec.Read(s); v != (api.Vec{}) || e != api.ErrForm {
			t.Errorf("%q: %v %v", s, v, e)
		}
	}
}

// P3.4

func TestConsequences(t *testing.T) {
	rnd := rand.New(rand.NewSource(1))
	some := func() (v api.Vec) {
		for i := range v {
			v[i] = rnd.Intn(top+1) >> rnd.Intn(31)
		}
		return v
	}
	for range 1000 {
		a, b, c := some(), some(), some()
		ab, e := vec.Add(a, b)
		if ba, f := vec.Add(b, a); ba != ab || f != e {
			t.Fatal("not commutative", a, b)
		}
		if e == api.OK {
			if back, f := vec.Sub(ab, b); back != a || f != api.OK {
				t.Fatal("Sub does not reverse", a, b)
			}
		}
		ac, e1 := vec.Add(a, c)
		bc, e2 := vec.Add(b, c)
		if vec.Fits(a, b) && e1 == api.OK && e2 == api.OK && !vec.Fits(ac, bc) {
			t.Fatal("does not fit behind adding", a, b, c)
		}
		if v, e := vec.Read(vec.Text(a)); v != a || e != api.OK {
			t.Fatal(a, v, e)
		}
	}
}
