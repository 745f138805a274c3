package share_test

import (
	"math"
	"math/big"
	"math/rand"
	"slices"
	"testing"

	"corvee/api"
	"corvee/share"
)

// part is an api.Share that may be written without its fields' names.
type part struct{ Num, Den int }

func compare(a, b part) int { return share.Compare(api.Share(a), api.Share(b)) }

// P4.1

func TestCompare(t *testing.T) {
	for _, c := range []struct {
		a, b part
		want int
	}{
		{part{1, 3}, part{2, 6}, 0}, {part{1, 3}, part{333, 1000}, 1}, {part{333, 1000}, part{1, 3}, -1},
		{part{0, 5}, part{0, 0}, 0}, {part{0, 0}, part{1, math.MaxInt}, -1}, {part{-7, 3}, part{0, 1}, 0}, {part{-7, -3}, part{0, 9}, 0},
		{part{1, 0}, part{9, 0}, 0}, {part{1, 0}, part{math.MaxInt, 1}, 1}, {part{math.MaxInt, 1}, part{1, 0}, -1}, {part{5, -1}, part{1, 0}, 0},
		{part{math.MaxInt, math.MaxInt}, part{1, 1}, 0}, {part{math.MaxInt - 1, math.MaxInt}, part{math.MaxInt - 2, math.MaxInt - 1}, 1},
		{part{math.MinInt, math.MinInt}, part{0, 0}, 0}, {part{1, 0}, part{0, 0}, 1}, {part{2, 1}, part{1, 1}, 1},
		{part{1 << 32, 1}, part{1<<32 + 1, 1}, -1}, {part{1 << 62, 3}, part{1 << 61, 1}, -1},
	} {
		if got := compare(c.a, c.b); got != c.want {
			t.Error(c.a, c.b, got)
		}
	}
}

func someNumber(rnd *rand.Rand) int {
	return []int{0, 1, -1, math.MaxInt, math.MinInt, rnd.Intn(4), rnd.Int(), rnd.Int() >> rnd.Intn(63)}[rnd.Intn(8)]
}

func exactly(a, b part) int {
	size := func(s part) (*big.Rat, bool) {
		n, d := max(s.Num, 0), max(s.Den, 0)
		if d == 0 {
			return new(big.Rat), n > 0
		}
		return big.NewRat(int64(n), int64(d)), false
	}
	x, endless := size(a)
	y, boundless := size(b)
	switch {
	case endless && boundless:
		return 0
	case endless:
		return 1
	case boundless:
		return -1
	}
	return x.Cmp(y)
}

func TestCompareIsExact(t *testing.T) {
	rnd := rand.New(rand.NewSource(1))
	for range 20000 {
		a, b := part{someNumber(rnd), someNumber(rnd)}, part{someNumber(rnd), someNumber(rnd)}
		if got := compare(a, b); got != exactly(a, b) {
			t.Fatal(a, b, got)
		}
	}
}

// P4.2

func TestDominant(t *testing.T) {
	for _, c := range []struct {
		has, whole api.Vec
		want       part
		i          int
	}{
		{api.Vec{2, 1, 0, 0}, api.Vec{9, 3, 0, 5}, part{1, 3}, 1},
		{api.Vec{0, 0, 1, 0}, api.Vec{9, 3, 0, 5}, part{1, 0}, 2},
		{api.Vec{1, 1, 1, 1}, api.Vec{2, 2, 2, 2}, part{1, 2}, 0},
		{api.Vec{1, 2, 2, 0}, api.Vec{2, 4, 3, 0}, part{2, 3}, 2},
		{api.Vec{}, api.Vec{}, part{0, 0}, 0},
		{api.Vec{-4, 0, 0, 0}, api.Vec{3, 7, 0, 0}, part{0, 3}, 0},
		{api.Vec{-4, 0, 0, 5}, api.Vec{-3, 7, 0, -2}, part{5, 0}, 3},
		{api.Vec{0, 3, 4, 0}, api.Vec{1, 0, 0, 0}, part{3, 0}, 1},
	} {
		if got, i := share.Dominant(c.has, c.whole); got != api.Share(c.want) || i != c.i {
			t.Error(c, got, i)
		}
	}
}

// P4.3

func TestLowest(t *testing.T) {
	for _, c := range []struct{ s, want part }{
		{part{4, 6}, part{2, 3}}, {part{6, 3}, part{2, 1}}, {part{5, 5}, part{1, 1}}, {part{7, 9}, part{7, 9}},
		{part{0, 9}, part{0, 1}}, {part{0, 0}, part{0, 1}}, {part{-3, 9}, part{0, 1}}, {part{-3, -9}, part{0, 1}}, {part{0, -9}, part{0, 1}},
		{part{8, 0}, part{1, 0}}, {part{8, -4}, part{1, 0}}, {part{math.MaxInt, math.MaxInt}, part{1, 1}},
	} {
		if got := share.Lowest(api.Share(c.s)); got != api.Share(c.want) {
			t.Error(c.s, got)
		}
	}
}

func TestLeast(t *testing.T) {
	for _, c := range []struct {
		l    []part
		want int
	}{
		{nil, -1}, {[]part{{1, 0}}, 0}, {[]part{{1, 2}, {1, 3}, {2, 6}}, 1}, {[]part{{1, 0}, {5, 0}}, 0}, {[]part{{1, 3}, {0, 0}, {-1, 4}, {0, 9}}, 1},
	} {
		var l []api.Share
		for _, s := range c.l {
			l = append(l, api.Share(s))
		}
		if got := share.Least(l); got != c.want {
			t.Error(c.l, got)
		}
	}
}

// P4.4

func TestLadder(t *testing.T) {
	l := []api.Vec{{3, 0}, {0, 1}, {1, 0}, {0, 0}, {2, 1}, {0, 0, 1}, {0, -3, 0}}
	kept := slices.Clone(l)
	if got := share.Ladder(l, api.Vec{4, 2, 0, 1}); !slices.Equal(got, []int{3, 6, 2, 1, 4, 0, 5}) {
		t.Error(got)
	}
	if !slices.Equal(l, kept) {
		t.Error("changed its argument")
	}
	if got := share.Ladder(nil, api.Vec{1}); len(got) != 0 {
		t.Error(got)
	}
}

// P4.5

func TestOrderIsTotal(t *testing.T) {
	rnd := rand.New(rand.NewSource(2))
	for range 5000 {
		a, b, c := part{someNumber(rnd), someNumber(rnd)}, part{someNumber(rnd), someNumber(rnd)}, part{someNumber(rnd), someNumber(rnd)}
		if compare(a, b) <= 0 && compare(b, c) <= 0 && compare(a, c) > 0 {
			t.Fatal("not transitive", a, b, c)
		}
		if compare(a, b) != -compare(b, a) || share.Compare(api.Share(a), share.Lowest(api.Share(a))) != 0 {
			t.Fatal(a, b)
		}
		whole, has := api.Vec{rnd.Intn(5), rnd.Intn(5), rnd.Intn(5), rnd.Intn(5)}, api.Vec{rnd.Intn(5), rnd.Intn(5)}
		more := has
		more[rnd.Intn(api.Dims)] += rnd.Intn(3)
		less, _ := share.Dominant(has, whole)
		great, _ := share.Dominant(more, whole)
		if share.Compare(less, great) > 0 {
			t.Fatal("more is less", has, more, whole)
		}
	}
}
