package gang_test

import (
	"math"
	"math/rand"
	"slices"
	"testing"

	"corvee/api"
	"corvee/gang"
	"corvee/profile"
	"corvee/vec"
)

const end = api.MaxTick

func pool(t *testing.T, whole ...api.Vec) *gang.Pool {
	t.Helper()
	p := gang.New(whole)
	if p == nil {
		t.Fatal("no pool", whole)
	}
	return p
}

// P7.1

func TestNew(t *testing.T) {
	if gang.New(make([]api.Vec, 17)) != nil || gang.New([]api.Vec{{1}, {-1}}) != nil || gang.New([]api.Vec{{0, api.MaxRes + 1}}) != nil {
		t.Error("New of what may not be")
	}
	if gang.New(nil) == nil || gang.New(make([]api.Vec, 16)) == nil {
		t.Error("New of what may be")
	}
}

func TestTake(t *testing.T) {
	p := pool(t, api.Vec{2}, api.Vec{3}, api.Vec{2})
	for _, c := range []struct {
		nodes    []int
		from, to int
		v        api.Vec
		want     api.Errno
	}{
		{[]int{0, 1}, 2, 6, api.Vec{2}, api.OK},
		{[]int{0, 2}, 5, 7, api.Vec{1}, api.ErrBusy},
		{[]int{2, 0}, 9, 10, api.Vec{1}, api.ErrArg},
		{[]int{1, 1}, 9, 10, api.Vec{1}, api.ErrArg},
		{[]int{1, 3}, 9, 10, api.Vec{1}, api.ErrArg},
		{[]int{-1, 1}, 9, 10, api.Vec{1}, api.ErrArg},
		{nil, 9, 10, api.Vec{1}, api.ErrArg},
		{[]int{0}, 5, 5, api.Vec{9}, api.ErrArg},
		{[]int{0}, -1, 5, api.Vec{}, api.ErrArg},
		{[]int{0}, 5, end + 1, api.Vec{}, api.ErrArg},
		{[]int{0}, 5, 6, api.Vec{-1}, api.ErrArg},
		{[]int{0, 1, 2}, 6, 7, api.Vec{2}, api.OK},
		{[]int{1, 2}, 0, end, api.Vec{1}, api.ErrBusy},
		{[]int{1}, 0, end, api.Vec{1}, api.OK},
	} {
		if e := p.Take(c.nodes, c.from, c.to, c.v); e != c.want {
			t.Error(c, e)
		}
	}
	for i, want := range []api.Vec{{0}, {0}, {0}} {
		if got := p.Free(i, 0, 7); got != want {
			t.Error(i, got)
		}
	}
	// What was refused has left nothing behind.
	if p.Free(2, 0, 6) != (api.Vec{2}) || p.Free(0, 7, end) != (api.Vec{2}) || p.Free(1, 7, end) != (api.Vec{2}) {
		t.Error("a refused Take took something")
	}
}

func TestGive(t *testing.T) {
	p := pool(t, api.Vec{2}, api.Vec{2}, api.Vec{2})
	p.Take([]int{0, 1}, 0, 10, api.Vec{2})
	p.Take([]int{2}, 0, 5, api.Vec{2})
	for _, c := range []struct {
		nodes    []int
		from, to int
		v        api.Vec
		want     api.Errno
	}{
		{[]int{0, 1, 2}, 3, 6, api.Vec{1}, api.ErrIdle},
		{[]int{0, 1, 2}, 3, 5, api.Vec{3}, api.ErrIdle},
		{nil, 3, 5, api.Vec{1}, api.ErrArg},
		{[]int{1, 0}, 3, 5, api.Vec{1}, api.ErrArg},
		{[]int{0, 3}, 3, 5, api.Vec{1}, api.ErrArg},
		{[]int{0}, 3, 3, api.Vec{1}, api.ErrArg},
		{[]int{0}, 3, 5, api.Vec{0, -1}, api.ErrArg},
	} {
		if e := p.Give(c.nodes, c.from, c.to, c.v); e != c.want {
			t.Error(c, e)
		}
		if p.Free(0, 0, 10) != (api.Vec{}) || p.Free(1, 0, 10) != (api.Vec{}) || p.Free(2, 0, 5) != (api.Vec{}) || p.Free(0, 3, 5) != (api.Vec{}) {
			t.Fatal("a refused Give gave something", c)
		}
	}
	if e := p.Give([]int{0, 1, 2}, 3, 5, api.Vec{1}); e != api.OK || p.Free(0, 3, 5) != (api.Vec{1}) || p.Free(2, 3, 5) != (api.Vec{1}) {
		t.Error(e)
	}
}

// P7.2

func TestFreeAndOpen(t *testing.T) {
	p := pool(t, api.Vec{2}, api.Vec{3}, api.Vec{2})
	p.Take([]int{1}, 4, 6, api.Vec{2})
	for _, c := range []struct {
		node, from, to int
		want           api.Vec
	}{{1, 0, 4, api.Vec{3}}, {1, 0, 5, api.Vec{1}}, {3, 0, 5, api.Vec{}}, {-1, 0, 5, api.Vec{}}, {0, 5, 5, api.Vec{2}}} {
		if got := p.Free(c.node, c.from, c.to); got != c.want {
			t.Error(c, got)
		}
	}
	for _, c := range []struct {
		places   []int
		from, to int
		v        api.Vec
		want     []int
	}{
		{[]int{2, 0, 1, 0, -1, 3, math.MaxInt, math.MinInt}, 0, 4, api.Vec{2}, []int{0, 1, 2}},
		{[]int{2, 1, 0}, 0, 5, api.Vec{2}, []int{0, 2}},
		{[]int{1}, 6, end, api.Vec{3}, []int{1}},
		{[]int{1, 2}, 6, end, api.Vec{4}, nil},
		{[]int{1, 2}, 6, 6, api.Vec{}, nil}, {[]int{1, 2}, -1, 6, api.Vec{}, nil}, {[]int{1, 2}, 0, end + 1, api.Vec{}, nil}, {[]int{1, 2}, 0, 1, api.Vec{-1}, nil},
		{nil, 0, 1, api.Vec{}, nil},
	} {
		if got := p.Open(c.places, c.from, c.to, c.v); !slices.Equal(got, c.want) {
			t.Error(c, got)
		}
	}
}

// P7.3

func TestFind(t *testing.T) {
	p := pool(t, api.Vec{2}, api.Vec{2})
	p.Take([]int{0}, 0, 4, api.Vec{1})
	both := []int{0, 1}
	for _, c := range []struct {
		places []int
		many   int
		v      api.Vec
		ticks  int
		after  int
		at     int
		nodes  []int
		ok     bool
	}{
		{both, 2, api.Vec{2}, 3, 0, 4, both, true},
		{both, 1, api.Vec{2}, 3, 0, 0, []int{1}, true},
		{both, 2, api.Vec{1}, 3, -5, 0, both, true},
		{[]int{1, 0, 0, 1, 7}, 2, api.Vec{1}, 3, 2, 2, both, true},
		{[]int{0, 0, 0}, 2, api.Vec{1}, 3, 0, 0, nil, false},
		{both, 1, api.Vec{1}, 3, 9, 9, []int{0}, true},
		{both, 3, api.Vec{1}, 3, 0, 0, nil, false},
		{both, 0, api.Vec{1}, 3, 0, 0, nil, false},
		{both, -1, api.Vec{1}, 3, 0, 0, nil, false},
		{both, 1, api.Vec{1}, 0, 0, 0, nil, false},
		{both, 1, api.Vec{3}, 1, 0, 0, nil, false},
		{both, 1, api.Vec{-1}, 1, 0, 0, nil, false},
		{both, 2, api.Vec{2}, end - 4, 0, 4, both, true},
		{both, 2, api.Vec{2}, end - 3, 0, 0, nil, false},
		{both, 1, api.Vec{2}, end, 0, 0, []int{1}, true},
		{both, 1, api.Vec{1}, end + 1, 0, 0, nil, false},
		{both, 1, api.Vec{}, math.MaxInt, math.MaxInt, 0, nil, false},
		{both, math.MaxInt, api.Vec{}, 1, math.MinInt, 0, nil, false},
		{both, 2, api.Vec{2}, 1, end - 1, end - 1, both, true},
		{both, 2, api.Vec{2}, 1, end, 0, nil, false},
		{nil, 1, api.Vec{}, 1, 0, 0, nil, false},
	} {
		at, nodes, ok := p.Find(c.places, c.many, c.v, c.ticks, c.after)
		if at != c.at || !slices.Equal(nodes, c.nodes) || ok != c.ok {
			t.Error(c, at, nodes, ok)
		}
	}
}

// P7.4

func TestNil(t *testing.T) {
	var p *gang.Pool
	at, nodes, ok := p.Find([]int{0}, 1, api.Vec{}, 1, 0)
	if p.Take([]int{0}, 0, 1, api.Vec{}) != api.ErrArg || p.Give([]int{0}, 0, 1, api.Vec{}) != api.ErrArg || p.Free(0, 0, 1) != (api.Vec{}) ||
		p.Open([]int{0}, 0, 1, api.Vec{}) != nil || at != 0 || nodes != nil || ok {
		t.Error("nil pool")
	}
}

// P7.5

func TestFindIsTheFirst(t *testing.T) {
	rnd := rand.New(rand.NewSource(1))
	for range 200 {
		whole := make([]api.Vec, 1+rnd.Intn(5))
		places := make([]int, len(whole))
		for i := range whole {
			whole[i], places[i] = api.Vec{1 + rnd.Intn(4), rnd.Intn(4)}, i
		}
		p := gang.New(whole)
		for range 10 {
			from := rnd.Intn(20)
			p.Take([]int{rnd.Intn(len(whole))}, from, from+1+rnd.Intn(6), api.Vec{rnd.Intn(3), rnd.Intn(3)})
		}
		v, ticks, after, many := api.Vec{rnd.Intn(3), rnd.Intn(2)}, 1+rnd.Intn(6), rnd.Intn(20), 1+rnd.Intn(len(whole))
		at, nodes, ok := p.Find(places, many, v, ticks, after)
		fits := 0
		for _, w := range whole {
			if vec.Fits(v, w) {
				fits++
			}
		}
		if ok != (fits >= many) {
			t.Fatal("found", ok, fits, many)
		}
		if !ok {
			continue
		}
		for s := after; s < at; s++ {
			if len(p.Open(places, s, s+ticks, v)) >= many {
				t.Fatal("an earlier one", s, at)
			}
		}
		if !slices.Equal(nodes, p.Open(places, at, at+ticks, v)[:many]) {
			t.Fatal(at, nodes)
		}
		if more, _, ok := p.Find(places, many+1, v, ticks, after); ok && more < at {
			t.Fatal("more are found earlier")
		}
		if p.Take(nodes, at, at+ticks, v) != api.OK {
			t.Fatal("can't be taken")
		}
	}
}

func TestFindOfOneNodeIsEarliest(t *testing.T) {
	p, q := gang.New([]api.Vec{{4}}), profile.New(api.Vec{4})
	for i := range 10 {
		p.Take([]int{0}, 3*i, 3*i+2, api.Vec{i % 4})
		q.Take(3*i, 3*i+2, api.Vec{i % 4})
	}
	for i := range 200 {
		v, ticks, after := api.Vec{i % 6}, i%7, i/8
		a, _, x := p.Find([]int{0}, 1, v, ticks, after)
		b, y := q.Earliest(after, ticks, v)
		if a != b || x != y {
			t.Error(v, ticks, after, a, b)
		}
	}
}
