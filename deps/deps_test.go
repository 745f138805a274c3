package deps_test

import (
	"math"
	"math/rand"
	"reflect"
	"slices"
	"testing"

	"corvee/api"
	"corvee/deps"
)

// P9.1

func TestOrderAndCyclic(t *testing.T) {
	for _, c := range []struct {
		after [][]int
		want  []int
		ok    bool
	}{
		{nil, nil, true},
		{[][]int{{1}, {}, {0}}, []int{1, 0, 2}, true},
		{[][]int{{1}, {0}}, nil, false},
		{[][]int{{0}}, nil, false},
		{[][]int{{}, {2}, {3}, {1}}, nil, false},
		{[][]int{{}, {}, {}}, []int{0, 1, 2}, true},
		{[][]int{{3}, {}, {}, {2}}, []int{1, 2, 3, 0}, true},
		{[][]int{{1, 1, 1}, {}}, []int{1, 0}, true},
		{[][]int{{-1, 2, 7, math.MinInt, math.MaxInt}, {5}}, []int{0, 1}, true},
		{[][]int{{4}, {0}, {}, {2}, {}}, []int{2, 3, 4, 0, 1}, true},
	} {
		got, ok := deps.Order(c.after)
		if !slices.Equal(got, c.want) || ok != c.ok || deps.Cyclic(c.after) == c.ok {
			t.Error(c.after, got, ok)
		}
	}
}

func TestOrderIsTheLeast(t *testing.T) {
	rnd := rand.New(rand.NewSource(1))
	for range 500 {
		after := make([][]int, rnd.Intn(8))
		for i := range after {
			for range rnd.Intn(3) {
				after[i] = append(after[i], rnd.Intn(len(after)+1)-1)
			}
		}
		var want []int
		for {
			next := slices.IndexFunc(after, func([]int) bool { return false })
			for i := range after {
				free := !slices.Contains(want, i) && !slices.ContainsFunc(after[i], func(n int) bool { return n >= 0 && n < len(after) && !slices.Contains(want, n) })
				if free {
					next = i
					break
				}
			}
			if next < 0 {
				break
			}
			want = append(want, next)
		}
		got, ok := deps.Order(after)
		if ok != (len(want) == len(after)) || ok && !slices.Equal(got, want) || deps.Cyclic(after) == ok {
			t.Fatal(after, got, want)
		}
	}
}

// P9.2

func TestResolve(t *testing.T) {
	for _, c := range []struct {
		next  int
		sizes []int
		after [][]int
		want  [][]int
		e     api.Errno
	}{
		{10, []int{2, 3}, [][]int{{}, {-1}}, [][]int{nil, {10, 11}}, api.OK},
		{10, []int{2, 3, 1}, [][]int{{9, -3, 1, 9}, {-1, -3}, {1}}, [][]int{{1, 9, 15}, {10, 11, 15}, {1}}, api.OK},
		{10, []int{1}, [][]int{{-1}}, nil, api.ErrCycle},
		{10, []int{1, 1}, [][]int{{-2}, {-1}}, nil, api.ErrCycle},
		{1, nil, nil, nil, api.OK},
		{1, []int{20, 20, 20, 20, 20, 20, 20, 20}, make([][]int, 8), make([][]int, 8), api.OK},
		{1 << 40, []int{1}, [][]int{{1<<40 - 1}}, [][]int{{1<<40 - 1}}, api.OK},
		{0, []int{1}, [][]int{{}}, nil, api.ErrArg},
		{1<<40 + 1, []int{1}, [][]int{{}}, nil, api.ErrArg},
		{1, []int{1, 1, 1, 1, 1, 1, 1, 1, 1}, make([][]int, 9), nil, api.ErrArg},
		{1, []int{0}, [][]int{{}}, nil, api.ErrArg},
		{1, []int{21}, [][]int{{}}, nil, api.ErrArg},
		{1, []int{1, 1}, [][]int{{}}, nil, api.ErrArg},
		{1, []int{1}, nil, nil, api.ErrArg},
		{1, nil, [][]int{{0}}, nil, api.ErrArg},
		{10, []int{1}, [][]int{{0}}, nil, api.ErrJob},
		{10, []int{1}, [][]int{{10}}, nil, api.ErrJob},
		{10, []int{1}, [][]int{{math.MaxInt}}, nil, api.ErrJob},
		{10, []int{1}, [][]int{{-2}}, nil, api.ErrJob},
		{10, []int{1}, [][]int{{math.MinInt}}, nil, api.ErrJob},
		{10, []int{1, 1}, [][]int{{-1}, {0}}, nil, api.ErrJob}, // ahead of ErrCycle
		{10, []int{0, 1}, [][]int{{-1}, {0}}, nil, api.ErrArg},
	} {
		got, e := deps.Resolve(c.next, c.sizes, c.after)
		same := len(got) == len(c.want) && e == c.e
		for i := range got {
			same = same && slices.Equal(got[i], c.want[i])
		}
		if !same {
			t.Error(c, got, e)
		}
	}
}

// P9.3

func TestAdd(t *testing.T) {
	g := deps.New()
	add := func(id int, after []int, doomed bool, want api.Errno) {
		t.Helper()
		if d, e := g.Add(id, after); d != doomed || e != want {
			t.Error(id, after, d, e)
		}
	}
	add(0, nil, false, api.ErrArg)
	add(-1, []int{9}, false, api.ErrArg)
	add(1, nil, false, api.OK)
	add(1, []int{9}, false, api.ErrTwice)
	add(2, []int{1, 3}, false, api.ErrJob)
	add(2, []int{2}, false, api.ErrJob)
	add(2, []int{0}, false, api.ErrJob)
	add(2, []int{1, 1}, false, api.OK)
	add(math.MaxInt, nil, false, api.OK)
	if got := g.Waits(2); !slices.Equal(got, []int{1}) {
		t.Error(got)
	}
	g.Finish(1, true)
	add(3, []int{1, 2}, false, api.OK)
	if got := g.Waits(3); !slices.Equal(got, []int{2}) {
		t.Error(got)
	}
	g.Finish(2, false)
	add(4, []int{1, 2}, true, api.OK)
	add(4, nil, false, api.ErrTwice)
	add(5, []int{4}, true, api.OK)
	add(6, []int{5, 77}, false, api.ErrJob)
	add(6, []int{1}, false, api.OK)
	if got := g.Ready(); !slices.Equal(got, []int{6, math.MaxInt}) {
		t.Error(got)
	}
}

// P9.4

func TestFinish(t *testing.T) {
	g := deps.New()
	for id, after := range [][]int{{}, {}, {1}, {1, 2}, {3}, {}, {5, 4}, {1}, {5}} {
		if id > 0 {
			g.Add(id, after)
		}
	}
	finish := func(id int, well bool, ready, doomed []int, want api.Errno) {
		t.Helper()
		r, d, e := g.Finish(id, well)
		if !slices.Equal(r, ready) || !slices.Equal(d, doomed) || e != want {
			t.Error(id, r, d, e)
		}
	}
	finish(9, true, nil, nil, api.ErrJob)
	finish(0, true, nil, nil, api.ErrJob)
	finish(3, true, nil, nil, api.ErrState)
	finish(3, false, nil, nil, api.ErrState)
	finish(1, true, []int{2, 7}, nil, api.OK)
	finish(1, true, nil, nil, api.ErrState)
	if got := g.Waits(3); !slices.Equal(got, []int{2}) {
		t.Error(got)
	}
	if got := g.Ready(); !slices.Equal(got, []int{2, 5, 7}) {
		t.Error(got)
	}
	finish(2, false, nil, []int{3, 4, 6}, api.OK)
	finish(4, true, nil, nil, api.ErrState)
	finish(5, true, []int{8}, nil, api.OK) // 6 waited for it, but is doomed
	if g.Waits(6) != nil || g.Waits(1) != nil || g.Waits(99) != nil {
		t.Error("Waits of finished jobs")
	}
	if got := g.Ready(); !slices.Equal(got, []int{7, 8}) {
		t.Error(got)
	}
	finish(7, false, nil, nil, api.OK)
	finish(8, false, nil, nil, api.OK)
	if got := g.Ready(); len(got) != 0 {
		t.Error(got)
	}
}

func TestResultsAreInOrder(t *testing.T) {
	g := deps.New()
	for _, id := range []int{9, 5} {
		g.Add(id, nil)
	}
	for _, id := range []int{7, 3, 8, 2} {
		g.Add(id, []int{9})
	}
	g.Add(6, []int{8, 5})
	g.Add(1, []int{3})
	if r, d, e := g.Finish(9, true); !slices.Equal(r, []int{2, 3, 7, 8}) || d != nil || e != api.OK {
		t.Error(r, d, e)
	}
	g.Add(4, []int{8, 3, 2})
	if got := g.Waits(4); !slices.Equal(got, []int{2, 3, 8}) {
		t.Error(got)
	}
	if r, d, e := g.Finish(8, false); r != nil || !slices.Equal(d, []int{4, 6}) || e != api.OK {
		t.Error(r, d, e)
	}
	g = deps.New()
	g.Add(9, nil)
	for _, id := range []int{7, 3, 8} {
		g.Add(id, []int{9})
	}
	g.Add(1, []int{8})
	g.Add(4, []int{3})
	if r, d, e := g.Finish(9, false); r != nil || !slices.Equal(d, []int{1, 3, 4, 7, 8}) || e != api.OK {
		t.Error(r, d, e)
	}
}

func TestRefusedChangesNothing(t *testing.T) {
	g := deps.New()
	g.Add(1, nil)
	g.Add(2, []int{1})
	g.Add(3, []int{2, 9})
	g.Finish(2, true)
	g.Finish(7, true)
	if d, e := g.Add(3, []int{2}); d || e != api.OK {
		t.Error(d, e)
	}
	if r, d, e := g.Finish(1, true); !slices.Equal(r, []int{2}) || d != nil || e != api.OK {
		t.Error(r, d, e)
	}
}

// P9.5

func TestNil(t *testing.T) {
	var g *deps.Graph
	d, e := g.Add(1, nil)
	r, l, f := g.Finish(1, true)
	if d || e != api.ErrArg || r != nil || l != nil || f != api.ErrArg || g.Ready() != nil || g.Waits(1) != nil {
		t.Error("nil graph")
	}
	g = new(deps.Graph)
	if _, e := g.Add(1, nil); e != api.OK {
		t.Error(e)
	}
}

// P9.6

func TestAllAreFinishedAtLast(t *testing.T) {
	rnd := rand.New(rand.NewSource(3))
	for range 100 {
		g := deps.New()
		n := 1 + rnd.Intn(30)
		for id := 1; id <= n; id++ {
			var after []int
			for range rnd.Intn(4) {
				if id > 1 {
					after = append(after, 1+rnd.Intn(id-1))
				}
			}
			if d, e := g.Add(id, after); d || e != api.OK {
				t.Fatal(d, e)
			}
		}
		finished := 0
		for ready := g.Ready(); len(ready) > 0; ready = g.Ready() {
			for _, id := range ready {
				if _, d, e := g.Finish(id, true); d != nil || e != api.OK {
					t.Fatal(d, e)
				}
				finished++
			}
		}
		if finished != n {
			t.Fatal(finished, n)
		}
	}
}

func TestLongChain(t *testing.T) {
	const n = 60000
	after := make([][]int, n)
	g := deps.New()
	g.Add(1, nil)
	for i := 1; i < n; i++ {
		after[i-1] = []int{i}
		g.Add(i+1, []int{i})
	}
	if order, ok := deps.Order(after); !ok || order[0] != n-1 {
		t.Error(ok)
	}
	if _, d, e := g.Finish(1, false); len(d) != n-1 || e != api.OK {
		t.Error(len(d), e)
	}
}

func TestArgumentsStay(t *testing.T) {
	after := [][]int{{2, 1, 1}, {}, {1}}
	kept := [][]int{{2, 1, 1}, {}, {1}}
	deps.Order(after)
	deps.Resolve(5, []int{1, 1, 1}, after)
	if !reflect.DeepEqual(after, kept) {
		t.Error(after)
	}
}
