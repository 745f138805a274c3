package profile_test

import (
	"math"
	"math/rand"
	"slices"
	"testing"

	"corvee/api"
	"corvee/profile"
	"corvee/vec"
)

const end = api.MaxTick

type call struct {
	give     bool
	from, to int
	v        api.Vec
	want     api.Errno
}

func do(t *testing.T, p *profile.Profile, calls ...call) {
	t.Helper()
	for _, c := range calls {
		e := api.OK
		if c.give {
			e = p.Give(c.from, c.to, c.v)
		} else {
			e = p.Take(c.from, c.to, c.v)
		}
		if e != c.want {
			t.Errorf("%v: %v", c, e)
		}
	}
}

// steps is ticks and what is free of the first resource, in turn.
func steps(p *profile.Profile) []int {
	var l []int
	for _, s := range p.Steps() {
		l = append(l, s.At, s.Free[0])
	}
	return l
}

// P6.1

func TestNew(t *testing.T) {
	for _, v := range []api.Vec{{-1}, {0, 0, 0, api.MaxRes + 1}} {
		if profile.New(v) != nil {
			t.Error(v)
		}
	}
	p := profile.New(api.Vec{4, 0, 1, 0})
	if got := p.Steps(); !slices.Equal(got, []api.Step{{At: 0, Free: api.Vec{4, 0, 1, 0}}}) {
		t.Error(got)
	}
}

func TestTakeAndGive(t *testing.T) {
	p := profile.New(api.Vec{4})
	do(t, p, call{false, 2, 5, api.Vec{3}, api.OK})
	if got := steps(p); !slices.Equal(got, []int{0, 4, 2, 1, 5, 4}) {
		t.Error(got)
	}
	do(t, p,
		call{false, 4, 6, api.Vec{2}, api.ErrBusy},
		call{true, 5, 6, api.Vec{1}, api.ErrIdle},
		call{true, 4, 6, api.Vec{1}, api.ErrIdle},
		call{true, 2, 5, api.Vec{0, 1}, api.ErrIdle},
		call{false, 9, 10, api.Vec{0, 1}, api.ErrBusy},
		call{false, 4, 6, api.Vec{1}, api.OK},
	)
	if got := steps(p); !slices.Equal(got, []int{0, 4, 2, 1, 4, 0, 5, 3, 6, 4}) {
		t.Error(got)
	}
	// What is given back need not have been taken by one call.
	do(t, p, call{true, 4, 6, api.Vec{1}, api.OK}, call{true, 2, 4, api.Vec{3}, api.OK}, call{true, 4, 5, api.Vec{2}, api.OK})
	if got := steps(p); !slices.Equal(got, []int{0, 4, 4, 3, 5, 4}) {
		t.Error(got)
	}
}

func TestArguments(t *testing.T) {
	p := profile.New(api.Vec{4})
	for _, give := range []bool{false, true} {
		for _, c := range []call{
			{give, -1, 3, api.Vec{1}, api.ErrArg}, {give, 3, 3, api.Vec{1}, api.ErrArg}, {give, 4, 3, api.Vec{1}, api.ErrArg},
			{give, 0, end + 1, api.Vec{1}, api.ErrArg}, {give, 0, math.MaxInt, api.Vec{1}, api.ErrArg}, {give, math.MinInt, math.MaxInt, api.Vec{}, api.ErrArg},
			{give, 0, 1, api.Vec{-1}, api.ErrArg}, {give, 0, 1, api.Vec{api.MaxRes + 1}, api.ErrArg}, {give, 2, 1, api.Vec{9}, api.ErrArg},
			{give, 0, end, api.Vec{}, api.OK}, {give, 3, 4, api.Vec{}, api.OK},
		} {
			do(t, p, c)
		}
	}
	if got := steps(p); !slices.Equal(got, []int{0, 4}) {
		t.Error(got)
	}
}

func TestWholeTime(t *testing.T) {
	p := profile.New(api.Vec{4})
	do(t, p, call{false, 0, end, api.Vec{1}, api.OK})
	if got := steps(p); !slices.Equal(got, []int{0, 3, end, 4}) {
		t.Error(got)
	}
	do(t, p, call{false, end - 1, end, api.Vec{3}, api.OK}, call{false, end - 2, end, api.Vec{1}, api.ErrBusy})
	if got := steps(p); !slices.Equal(got, []int{0, 3, end - 1, 0, end, 4}) {
		t.Error(got)
	}
	if v, w := p.At(end-1), p.At(end); v[0] != 0 || w[0] != 4 {
		t.Error(v, w)
	}
	do(t, p, call{true, end - 1, end, api.Vec{4}, api.OK}, call{true, 0, end - 1, api.Vec{1}, api.OK})
	if got := steps(p); !slices.Equal(got, []int{0, 4}) {
		t.Error(got)
	}
}

// P6.2

func TestAtAndFree(t *testing.T) {
	p := profile.New(api.Vec{4, 4})
	do(t, p, call{false, 2, 5, api.Vec{3, 0}, api.OK}, call{false, 4, 8, api.Vec{0, 4}, api.OK})
	for at, want := range map[int]api.Vec{
		-1: {4, 4}, math.MinInt: {4, 4}, 0: {4, 4}, 1: {4, 4}, 2: {1, 4}, 4: {1, 0}, 5: {4, 0}, 7: {4, 0}, 8: {4, 4}, end - 1: {4, 4}, end: {4, 4}, math.MaxInt: {4, 4},
	} {
		if got := p.At(at); got != want {
			t.Error(at, got)
		}
	}
	for _, c := range []struct {
		from, to int
		want     api.Vec
	}{
		{0, 2, api.Vec{4, 4}}, {0, 3, api.Vec{1, 4}}, {3, 6, api.Vec{1, 0}}, {5, 9, api.Vec{4, 0}}, {8, 9, api.Vec{4, 4}},
		{-9, 3, api.Vec{1, 4}}, {-9, 0, api.Vec{4, 4}}, {4, math.MaxInt, api.Vec{1, 0}}, {math.MinInt, math.MaxInt, api.Vec{1, 0}},
		{3, 3, api.Vec{4, 4}}, {4, 2, api.Vec{4, 4}}, {end, end + 5, api.Vec{4, 4}}, {math.MaxInt, math.MinInt, api.Vec{4, 4}},
	} {
		if got := p.Free(c.from, c.to); got != c.want {
			t.Error(c, got)
		}
	}
	q := profile.New(api.Vec{4})
	do(t, q, call{false, 0, 1, api.Vec{3}, api.OK}, call{false, end - 1, end, api.Vec{2}, api.OK})
	if q.Free(-9, 1) != (api.Vec{1}) || q.Free(0, 1) != (api.Vec{1}) || q.At(0) != (api.Vec{1}) || q.Free(1, end-1) != (api.Vec{4}) || q.Free(1, end) != (api.Vec{2}) || q.Free(end-1, end+9) != (api.Vec{2}) {
		t.Error("at the ends", q.Steps())
	}
	p.Steps()[0].Free[0] = 99
	if p.At(0) != (api.Vec{4, 4}) {
		t.Error("Steps shares memory")
	}
}

// P6.3

func TestEarliest(t *testing.T) {
	p := profile.New(api.Vec{4})
	do(t, p, call{false, 2, 5, api.Vec{3}, api.OK}, call{false, 9, 10, api.Vec{1}, api.OK})
	for _, c := range []struct {
		after, ticks, amount int
		want                 int
		ok                   bool
	}{
		{0, 3, 2, 5, true}, {1, 3, 2, 5, true}, {0, 2, 2, 0, true}, {-7, 2, 2, 0, true}, {math.MinInt, 2, 2, 0, true}, {0, 3, 1, 0, true}, {3, 1, 2, 5, true},
		{0, 5, 4, 10, true}, {0, 4, 4, 5, true}, {6, 4, 4, 10, true}, {6, 9, 3, 6, true}, {0, 1, 5, 0, false}, {0, 1, 0, 0, true},
		{0, 0, 1, 0, false}, {0, -1, 1, 0, false}, {0, 1, -1, 0, false}, {0, 1, api.MaxRes + 1, 0, false},
		{0, end, 1, 0, true}, {0, end, 2, 0, false}, {0, end + 1, 1, 0, false}, {0, math.MaxInt, 0, 0, false},
		{0, end - 10, 4, 10, true}, {0, end - 9, 4, 0, false}, {end - 1, 1, 4, end - 1, true}, {end, 1, 1, 0, false}, {end - 1, 2, 1, 0, false}, {math.MaxInt, math.MaxInt, 0, 0, false},
	} {
		if at, ok := p.Earliest(c.after, c.ticks, api.Vec{c.amount}); at != c.want || ok != c.ok {
			t.Error(c, at, ok)
		}
	}
}

func TestNil(t *testing.T) {
	var p *profile.Profile
	at, ok := p.Earliest(0, 1, api.Vec{})
	if p.Take(0, 1, api.Vec{}) != api.ErrArg || p.Give(0, 1, api.Vec{}) != api.ErrArg || p.At(0) != (api.Vec{}) || p.Free(0, 1) != (api.Vec{}) || p.Steps() != nil || at != 0 || ok {
		t.Error("nil profile")
	}
	p = new(profile.Profile)
	p.Take(0, 1, api.Vec{})
	p.At(3)
	p.Earliest(0, 1, api.Vec{})
}

// P6.4: against a list of all ticks.

const few = 12

type model struct {
	whole api.Vec
	free  [few]api.Vec
}

func (m *model) move(from, to int, v api.Vec, sign int) bool {
	next := m.free
	for i := from; i < to; i++ {
		for r := range v {
			next[i][r] += sign * v[r]
			if next[i][r] < 0 || next[i][r] > m.whole[r] {
				return false
			}
		}
	}
	m.free = next
	return true
}

func (m *model) fits(t, ticks int, v api.Vec) bool {
	for i := t; i < t+ticks; i++ {
		free := m.whole
		if i < few {
			free = m.free[i]
		}
		if !vec.Fits(v, free) {
			return false
		}
	}
	return true
}

func TestAgainstAList(t *testing.T) {
	rnd := rand.New(rand.NewSource(1))
	for range 300 {
		m := model{whole: api.Vec{3, 2}}
		for i := range m.free {
			m.free[i] = m.whole
		}
		p := profile.New(m.whole)
		for range 40 {
			from := rnd.Intn(few)
			to := from + 1 + rnd.Intn(few-from)
			v := api.Vec{rnd.Intn(3), rnd.Intn(3)}
			ahead := p.Steps()
			wasAt, was := p.Earliest(0, 3, v)
			if rnd.Intn(2) == 0 {
				e := p.Take(from, to, v)
				if m.move(from, to, v, -1) != (e == api.OK) {
					t.Fatal("Take", from, to, v, e)
				}
				if e == api.OK && rnd.Intn(3) == 0 {
					if p.Give(from, to, v) != api.OK || !slices.Equal(p.Steps(), ahead) {
						t.Fatal("giving back changes something")
					}
					p.Take(from, to, v)
				}
			} else if e := p.Give(from, to, v); m.move(from, to, v, 1) != (e == api.OK) {
				t.Fatal("Give", from, to, v, e)
			} else if at, ok := p.Earliest(0, 3, v); was && (!ok || at > wasAt) {
				t.Fatal("later behind Give")
			}
			check(t, rnd, p, &m)
		}
	}
}

func check(t *testing.T, rnd *rand.Rand, p *profile.Profile, m *model) {
	t.Helper()
	last := api.Vec{-1}
	var want []api.Step
	for i, v := range append(m.free[:few:few], m.whole) {
		if v != last {
			want = append(want, api.Step{At: i, Free: v})
		}
		last = v
	}
	if got := p.Steps(); !slices.Equal(got, want) {
		t.Fatal(got, want)
	}
	after, ticks, v := rnd.Intn(few), 1+rnd.Intn(5), api.Vec{rnd.Intn(4), rnd.Intn(3)}
	first := after
	for !m.fits(first, ticks, v) {
		first++
	}
	if at, ok := p.Earliest(after, ticks, v); !ok || at != first {
		t.Fatal("Earliest", at, first, ticks, v)
	}
}
