package life_test

import (
	"math"
	"testing"

	"corvee/api"
	"corvee/life"
)

// P10.1

func TestNew(t *testing.T) {
	for _, c := range []struct {
		retries int
		held    bool
		want    api.Life
		e       api.Errno
	}{
		{0, false, api.Life{State: api.Pending}, api.OK}, {5, true, api.Life{State: api.Held, Left: 5}, api.OK}, {3, false, api.Life{State: api.Pending, Left: 3}, api.OK},
		{-1, false, api.Life{}, api.ErrArg}, {6, true, api.Life{}, api.ErrArg}, {math.MaxInt, true, api.Life{}, api.ErrArg},
	} {
		if l, e := life.New(c.retries, c.held); l != c.want || e != c.e {
			t.Error(c, l, e)
		}
	}
}

func TestRight(t *testing.T) {
	for _, l := range []api.Life{
		{State: api.Pending}, {State: api.Pending, Attempt: 5}, {State: api.Held, Attempt: 2, Left: 3}, {State: api.Running, Attempt: 1, Left: 5}, {State: api.Running, Attempt: 6},
		{State: api.Ending, Attempt: 1, Wall: true, Stop: true}, {State: api.Ending, Attempt: 6}, {State: api.Done, Attempt: 3, Left: 3}, {State: api.TimedOut, Attempt: 1},
		{State: api.Failed, Attempt: 6}, {State: api.Failed, Attempt: 1, Left: 5}, {State: api.Cancelled}, {State: api.Cancelled, Left: 6}, {State: api.Cancelled, Attempt: 6},
	} {
		if !life.Right(l) {
			t.Error(l)
		}
	}
	for _, l := range []api.Life{
		{}, {State: -1, Attempt: 1}, {State: 9, Attempt: 1}, {State: math.MaxInt, Attempt: 1},
		{State: api.Pending, Attempt: -1}, {State: api.Pending, Left: -1}, {State: api.Pending, Attempt: 3, Left: 3}, {State: api.Held, Attempt: 6}, {State: api.Held, Left: 6},
		{State: api.Running, Attempt: 1, Left: 6}, {State: api.Running, Attempt: 7}, {State: api.Ending, Attempt: 6, Left: 1}, {State: api.Cancelled, Left: 7},
		{State: api.Running}, {State: api.Ending}, {State: api.Done}, {State: api.TimedOut}, {State: api.Failed, Left: 2},
		{State: api.Running, Attempt: math.MaxInt, Left: math.MaxInt}, {State: api.Done, Attempt: 1, Left: math.MaxInt}, {State: api.Done, Attempt: 2, Left: math.MinInt},
		{State: api.Pending, Wall: true}, {State: api.Held, Stop: true}, {State: api.Running, Attempt: 1, Wall: true}, {State: api.Done, Attempt: 1, Stop: true}, {State: api.Cancelled, Wall: true},
	} {
		if life.Right(l) {
			t.Error(l)
		}
		if n, e := life.Next(l, api.SignCancel); n != (api.Life{}) || e != api.ErrArg {
			t.Error(l, n, e)
		}
	}
}

func TestStates(t *testing.T) {
	for s, want := range map[api.State]string{
		api.Pending: "pending", api.Held: "held", api.Running: "running", api.Ending: "ending", api.Done: "done", api.TimedOut: "timedout", api.Failed: "failed", api.Cancelled: "cancelled",
		0: "", -1: "", 9: "", math.MaxInt: "", math.MinInt: "",
	} {
		if got := life.Name(s); got != want {
			t.Error(s, got)
		}
		if life.Over(s) != (s >= api.Done && s <= api.Cancelled) || life.Live(s) != (s == api.Running || s == api.Ending) {
			t.Error(s)
		}
	}
}

// P10.2

func TestNext(t *testing.T) {
	p := func(s api.State, attempt, left int) api.Life {
		return api.Life{State: s, Attempt: attempt, Left: left}
	}
	e := func(attempt, left int, wall, stop bool) api.Life {
		return api.Life{State: api.Ending, Attempt: attempt, Left: left, Wall: wall, Stop: stop}
	}
	table := map[api.Life]map[api.Sign]api.Life{
		p(api.Pending, 1, 2):  {api.SignHold: p(api.Held, 1, 2), api.SignStart: p(api.Running, 2, 2), api.SignCancel: p(api.Cancelled, 1, 2), api.SignDoom: p(api.Cancelled, 1, 2)},
		p(api.Held, 0, 2):     {api.SignRelease: p(api.Pending, 0, 2), api.SignCancel: p(api.Cancelled, 0, 2), api.SignDoom: p(api.Cancelled, 0, 2)},
		p(api.Running, 2, 1):  {api.SignWall: e(2, 1, true, false), api.SignGone: e(2, 1, false, false), api.SignCancel: e(2, 1, false, true), api.SignOver: p(api.Done, 2, 1)},
		e(2, 1, false, false): {api.SignWall: e(2, 1, true, false), api.SignGone: e(2, 1, false, false), api.SignCancel: e(2, 1, false, true), api.SignOver: p(api.Pending, 2, 0)},
		e(2, 0, false, false): {api.SignWall: e(2, 0, true, false), api.SignGone: e(2, 0, false, false), api.SignCancel: e(2, 0, false, true), api.SignOver: p(api.Failed, 2, 0)},
		e(2, 1, true, false):  {api.SignWall: e(2, 1, true, false), api.SignGone: e(2, 1, true, false), api.SignCancel: e(2, 1, true, true), api.SignOver: p(api.TimedOut, 2, 1)},
		e(2, 1, false, true):  {api.SignWall: e(2, 1, true, true), api.SignGone: e(2, 1, false, true), api.SignOver: p(api.Cancelled, 2, 1)},
		e(2, 1, true, true):   {api.SignWall: e(2, 1, true, true), api.SignGone: e(2, 1, true, true), api.SignOver: p(api.Cancelled, 2, 1)},
		p(api.Done, 1, 0):     {}, p(api.TimedOut, 1, 1): {}, p(api.Failed, 1, 0): {}, p(api.Cancelled, 0, 0): {}, p(api.Cancelled, 1, 0): {},
	}
	for l, row := range table {
		for s := api.Sign(-1); s <= api.SignOver+2; s++ {
			want, ok := row[s]
			wantE := api.ErrState
			if ok {
				wantE = api.OK
			}
			if n, e := life.Next(l, s); n != want || e != wantE {
				t.Error(l, s, n, e)
			}
		}
	}
}

func TestRuns(t *testing.T) {
	run := func(retries int, want api.Life, signs ...api.Sign) {
		t.Helper()
		l, _ := life.New(retries, false)
		for _, s := range signs {
			var e api.Errno
			if l, e = life.Next(l, s); e != api.OK {
				t.Fatal(s, e)
			}
		}
		if l != want {
			t.Error(l, want)
		}
	}
	start, gone, over := api.SignStart, api.SignGone, api.SignOver
	run(1, api.Life{State: api.Failed, Attempt: 2}, start, gone, over, start, gone, over)
	run(0, api.Life{State: api.Cancelled, Attempt: 1}, start, api.SignCancel, api.SignWall, over)
	run(2, api.Life{State: api.TimedOut, Attempt: 1, Left: 2}, start, api.SignWall, over)
	run(2, api.Life{State: api.Done, Attempt: 2, Left: 1}, start, gone, over, start, over)
}

// P10.3

func TestAllLives(t *testing.T) {
	for state := api.Pending; state <= api.Cancelled; state++ {
		for n := range 7 * 7 * 4 {
			l := api.Life{State: state, Attempt: n % 7, Left: n / 7 % 7, Wall: n/49%2 == 1, Stop: n/98 == 1}
			if !life.Right(l) {
				continue
			}
			for s := api.SignHold; s <= api.SignOver; s++ {
				next, e := life.Next(l, s)
				if e != api.OK {
					continue
				}
				if !life.Right(next) || life.Over(l.State) {
					t.Fatal(l, s, next)
				}
				if next.Attempt+next.Left > l.Attempt+l.Left+1 || s != api.SignStart && next.Attempt+next.Left > l.Attempt+l.Left {
					t.Fatal("more attempts", l, s, next)
				}
			}
		}
	}
}

func TestAttemptsAreBounded(t *testing.T) {
	for retries := range api.MaxRetries + 1 {
		l, _ := life.New(retries, false)
		for {
			next, e := life.Next(l, api.SignStart)
			if e != api.OK {
				break
			}
			next, _ = life.Next(next, api.SignGone)
			l, _ = life.Next(next, api.SignOver)
		}
		if l.State != api.Failed || l.Attempt != retries+1 {
			t.Error(retries, l)
		}
	}
}
