package plan_test

import (
	"math"
	"math/rand"
	"reflect"
	"testing"

	"corvee/api"
	"corvee/plan"
)

var (
	twoNodes = []api.Vec{{2}, {2}}
	bothUp   = []bool{true, true}
	both     = []int{0, 1}
)

// ask is one without a promise.
func ask(id, nodes, ticks, amount int) api.Ask {
	return api.Ask{Id: id, Places: both, Nodes: nodes, Demand: api.Vec{amount}, Ticks: ticks, Start: -1}
}

// given is it with a promise.
func given(a api.Ask, start int, nodes ...int) api.Ask {
	a.Start, a.Gang = start, nodes
	return a
}

func slot(id, start int, nodes ...int) api.Slot {
	return api.Slot{Id: id, Start: start, Gang: nodes}
}

func three() []api.Ask {
	return []api.Ask{ask(1, 2, 3, 2), ask(2, 1, 4, 2), ask(3, 1, 5, 2)}
}

func hold(until int) []api.Hold {
	return []api.Hold{{Gang: []int{0}, Demand: api.Vec{2}, Until: until}}
}

// P12.1

func TestPass(t *testing.T) {
	promised := []api.Ask{given(three()[0], 4, 0, 1), given(three()[1], 0, 1), given(three()[2], 7, 0)}
	elsewhere := ask(1, 1, 5, 2)
	elsewhere.Places = []int{1, 1, 9, -1}
	for _, c := range []struct {
		name  string
		up    []bool
		now   int
		holds []api.Hold
		asks  []api.Ask
		want  []api.Slot
	}{
		{"no asks", bothUp, 0, nil, nil, []api.Slot{}},
		{"backfill", bothUp, 0, hold(4), three(), []api.Slot{slot(1, 4, 0, 1), slot(2, 0, 1), slot(3, 7, 0)}},
		{"with promises, the hold ends earlier", bothUp, 0, hold(2), promised, []api.Slot{slot(1, 4, 0, 1), slot(2, 0, 1), slot(3, 7, 0)}},
		{"places that count", bothUp, 3, nil, []api.Ask{elsewhere}, []api.Slot{slot(1, 3, 1)}},
		{"a node is down", []bool{true, false}, 0, hold(4), three(), []api.Slot{slot(1, -1), slot(2, 4, 0), slot(3, 8, 0)}},
		{"a hold on a node that is down", []bool{false, true}, 0, hold(4), three(), []api.Slot{slot(1, -1), slot(2, 0, 1), slot(3, 4, 1)}},
		{"a hold that is over takes a tick", bothUp, 5, hold(2), three()[:1], []api.Slot{slot(1, 6, 0, 1)}},
		{"a promise that is past", bothUp, 5, nil, []api.Ask{ask(9, 1, 2, 2), given(ask(1, 2, 3, 2), 2, 0, 1)}, []api.Slot{slot(9, 8, 0), slot(1, 5, 0, 1)}},
		{"a promise keeps its place", bothUp, 0, nil, []api.Ask{ask(9, 2, 9, 2), given(ask(1, 1, 3, 2), 1, 1)}, []api.Slot{slot(9, 4, 0, 1), slot(1, 0, 0)}},
		{"a promise on a node that is down", []bool{true, false}, 0, nil, []api.Ask{ask(9, 1, 9, 2), given(ask(1, 1, 3, 2), 0, 1)}, []api.Slot{slot(9, 0, 0), slot(1, 9, 0)}},
		{"promises that don't fit together", bothUp, 0, nil, []api.Ask{ask(9, 1, 1, 2), given(ask(1, 2, 3, 2), 0, 0, 1), given(ask(2, 1, 3, 2), 1, 1)}, []api.Slot{slot(9, 3, 0), slot(1, 0, 0, 1), slot(2, 3, 1)}},
		{"no promises: too few, too many, twice, unordered, below 0", bothUp, 0, nil,
			[]api.Ask{ask(9, 2, 1, 2), given(ask(1, 2, 3, 1), 0, 0), given(ask(2, 1, 3, 1), 0, 0, 1), given(ask(3, 2, 3, 1), 0, 1, 1), given(ask(4, 2, 3, 1), 0, 1, 0), given(ask(5, 1, 3, 1), -1, 0)},
			[]api.Slot{slot(9, 0, 0, 1), slot(1, 1, 0, 1), slot(2, 1, 0), slot(3, 4, 0, 1), slot(4, 4, 0, 1), slot(5, 1, 1)}},
		{"asks that may not be", bothUp, 0, nil, []api.Ask{ask(1, 0, 1, 1), ask(2, 1, 0, 1), ask(3, 1, 1, -1), ask(4, -1, -1, 1), given(ask(5, 0, 3, 1), 0), ask(6, 1, 1, api.MaxRes+1)},
			[]api.Slot{slot(1, -1), slot(2, -1), slot(3, -1), slot(4, -1), slot(5, -1), slot(6, -1)}},
		{"asks that never fit", bothUp, 0, nil, []api.Ask{ask(1, 3, 1, 1), ask(2, 1, 1, 3), ask(3, 1, math.MaxInt, 1), given(ask(4, 1, math.MaxInt, 1), math.MaxInt, 0), given(ask(5, 1, 1, 2), math.MaxInt, 0)},
			[]api.Slot{slot(1, -1), slot(2, -1), slot(3, -1), slot(4, -1), slot(5, 0, 0)}},
		{"at the end of time", bothUp, api.MaxTick - 2, nil, []api.Ask{ask(1, 1, 3, 1), ask(2, 1, 2, 2)}, []api.Slot{slot(1, -1), slot(2, api.MaxTick-2, 0)}},
	} {
		got, e := plan.Pass(twoNodes, c.up, c.now, c.holds, c.asks)
		same := len(got) == len(c.want) && e == api.OK
		for i := 0; same && i < len(got); i++ {
			a, b := got[i], c.want[i]
			same = a.Id == b.Id && a.Start == b.Start && reflect.DeepEqual(append([]int{}, a.Gang...), append([]int{}, b.Gang...))
		}
		if !same {
			t.Errorf("%s: %v %v", c.name, got, e)
		}
		if !plan.May(twoNodes, c.up, c.now, c.holds, c.asks, got) {
			t.Errorf("%s: May refuses it", c.name)
		}
	}
}

func TestPassErrors(t *testing.T) {
	h := func(until int, amount int, nodes ...int) []api.Hold {
		return []api.Hold{{Gang: nodes, Demand: api.Vec{amount}, Until: until}}
	}
	for i, c := range []struct {
		whole []api.Vec
		up    []bool
		now   int
		holds []api.Hold
		want  api.Errno
	}{
		{[]api.Vec{{-1}}, []bool{true}, 0, nil, api.ErrArg},
		{make([]api.Vec, 17), make([]bool, 17), 0, nil, api.ErrArg},
		{twoNodes, []bool{true}, 0, nil, api.ErrArg},
		{twoNodes, nil, 0, nil, api.ErrArg},
		{twoNodes, bothUp, -1, nil, api.ErrArg},
		{twoNodes, bothUp, api.MaxTick, nil, api.ErrArg},
		{twoNodes, bothUp, math.MaxInt, h(3, 1, 0), api.ErrArg},
		{twoNodes, bothUp, 0, h(3, 1, 2), api.ErrArg},
		{twoNodes, bothUp, 0, h(3, 1), api.ErrArg},
		{twoNodes, bothUp, 0, h(3, 1, 1, 0), api.ErrArg},
		{twoNodes, bothUp, 0, h(3, -1, 0), api.ErrArg},
		{twoNodes, bothUp, 0, h(api.MaxTick+1, 1, 0), api.ErrArg},
		{twoNodes, bothUp, 0, h(3, 3, 0), api.ErrBusy},
		{twoNodes, bothUp, 0, append(h(3, 1, 0), h(2, 2, 0, 1)...), api.ErrBusy},
		{twoNodes, bothUp, 0, append(h(3, 3, 0), h(2, 2)...), api.ErrBusy},
		{twoNodes, bothUp, 0, h(api.MaxTick, 1, 0), api.OK},
		{twoNodes, bothUp, api.MaxTick - 1, h(0, 1, 0), api.OK},
		{nil, nil, 0, nil, api.OK},
	} {
		got, e := plan.Pass(c.whole, c.up, c.now, c.holds, three())
		if e != c.want || e != api.OK && got != nil || plan.May(c.whole, c.up, c.now, c.holds, three(), got) != (e == api.OK) {
			t.Error(i, got, e)
		}
		if none := []api.Slot{slot(1, -1), slot(2, -1), slot(3, -1)}; plan.May(c.whole, c.up, c.now, c.holds, three(), none) != (e == api.OK) {
			t.Error("May", i)
		}
	}
}

// P12.2

func TestMay(t *testing.T) {
	bad := three()
	bad[1].Ticks = 0
	for i, c := range []struct {
		asks  []api.Ask
		slots []api.Slot
		want  bool
	}{
		{three(), []api.Slot{slot(1, 4, 0, 1), slot(2, 0, 1), slot(3, 7, 0)}, true},
		{three(), []api.Slot{slot(1, 14, 0, 1), slot(2, 1, 1), slot(3, -1)}, true},
		{three(), []api.Slot{slot(1, -1), slot(2, -1), slot(3, -1)}, true},
		{three(), []api.Slot{slot(1, 4, 0, 1), slot(2, 0, 1)}, false},
		{three()[:2], []api.Slot{slot(1, 4, 0, 1), slot(2, 0, 1), slot(3, 7, 0)}, false},
		{three(), []api.Slot{slot(2, 0, 1), slot(1, 4, 0, 1), slot(3, 7, 0)}, false},
		{three(), []api.Slot{slot(1, 3, 0, 1), slot(2, -1), slot(3, -1)}, false},
		{three(), []api.Slot{slot(1, 4, 0, 1), slot(2, 1, 1), slot(3, -1)}, false},
		{three(), []api.Slot{slot(1, 4, 1), slot(2, -1), slot(3, -1)}, false},
		{three(), []api.Slot{slot(1, 4, 1, 0), slot(2, -1), slot(3, -1)}, false},
		{three(), []api.Slot{slot(1, 4, 0, 0), slot(2, -1), slot(3, -1)}, false},
		{three(), []api.Slot{slot(1, 4, 0, 2), slot(2, -1), slot(3, -1)}, false},
		{three(), []api.Slot{slot(1, 4, 0, 1), slot(2, -1, 1), slot(3, -1)}, false},
		{three(), []api.Slot{slot(1, 4, 0, 1), slot(2, -2), slot(3, -1)}, false},
		{three(), []api.Slot{slot(1, 4, 0, 1), slot(2, math.MinInt), slot(3, -1)}, false},
		{three(), []api.Slot{slot(1, math.MaxInt, 0, 1), slot(2, -1), slot(3, -1)}, false},
		{three(), []api.Slot{slot(1, api.MaxTick-2, 0, 1), slot(2, -1), slot(3, -1)}, false},
		{three(), []api.Slot{slot(1, api.MaxTick-3, 0, 1), slot(2, -1), slot(3, -1)}, true},
		{bad, []api.Slot{slot(1, 4, 0, 1), slot(2, 0, 1), slot(3, -1)}, false},
		{bad, []api.Slot{slot(1, 4, 0, 1), slot(2, -1), slot(3, -1)}, true},
		{nil, nil, true},
	} {
		if got := plan.May(twoNodes, bothUp, 0, hold(4), c.asks, c.slots); got != c.want {
			t.Error(i, got)
		}
	}
	if plan.May(twoNodes, bothUp, 5, nil, three()[:1], []api.Slot{slot(1, 4, 0, 1)}) {
		t.Error("a start ahead of now")
	}
	if plan.May(twoNodes, []bool{true, false}, 0, nil, three()[:1], []api.Slot{slot(1, 0, 0, 1)}) {
		t.Error("a node that is down")
	}
}

// P12.3

func TestNobodyIsDelayed(t *testing.T) {
	rnd := rand.New(rand.NewSource(1))
	for range 300 {
		whole, up := make([]api.Vec, 1+rnd.Intn(5)), []bool{}
		for i := range whole {
			whole[i] = api.Vec{1 + rnd.Intn(4), rnd.Intn(3)}
			up = append(up, rnd.Intn(5) > 0)
		}
		some := func(id int) api.Ask {
			a := api.Ask{Id: id, Nodes: 1 + rnd.Intn(3), Demand: api.Vec{rnd.Intn(4), rnd.Intn(2)}, Ticks: 1 + rnd.Intn(8), Start: -1}
			for range 1 + rnd.Intn(6) {
				a.Places = append(a.Places, rnd.Intn(len(whole)+1)-rnd.Intn(2))
			}
			return a
		}
		now := rnd.Intn(5)
		var holds []api.Hold
		for i, v := range whole {
			if rnd.Intn(2) == 0 {
				holds = append(holds, api.Hold{Gang: []int{i}, Demand: api.Vec{rnd.Intn(v[0] + 1)}, Until: now + rnd.Intn(9)})
			}
		}
		var asks []api.Ask
		for id := range rnd.Intn(12) {
			asks = append(asks, some(id))
		}
		slots, e := plan.Pass(whole, up, now, holds, asks)
		if e != api.OK || !plan.May(whole, up, now, holds, asks, slots) {
			t.Fatal(e, slots)
		}
		next := now + 9
		for i, s := range slots {
			asks[i].Start, asks[i].Gang = s.Start, s.Gang
			if s.Start >= 0 {
				next = min(next, s.Start)
			}
		}
		var later []api.Ask
		for _, a := range asks {
			if rnd.Intn(4) == 0 {
				later = append(later, some(100))
			}
			if rnd.Intn(5) > 0 {
				later = append(later, a)
			}
		}
		for i := range holds {
			holds[i].Until -= rnd.Intn(2)
		}
		holds = holds[rnd.Intn(len(holds)+1):]
		for i := range holds { // a hold that is past takes a tick: the first plan must have known of it
			holds[i].Until = max(holds[i].Until, now+1)
		}
		at := now + rnd.Intn(next-now+1)
		for i := 0; i < len(holds); {
			if holds[i].Until <= at && at > now {
				holds = append(holds[:i], holds[i+1:]...)
			} else {
				i++
			}
		}
		again, e := plan.Pass(whole, up, at, holds, later)
		if e != api.OK || !plan.May(whole, up, at, holds, later, again) {
			t.Fatal(e, again)
		}
		for i, s := range again {
			if was := later[i].Start; was >= 0 && (s.Start < 0 || s.Start > was) {
				t.Fatal("delayed", later[i], s)
			}
		}
	}
}

func TestArgumentsStay(t *testing.T) {
	asks, holds := three(), hold(4)
	got, _ := plan.Pass(twoNodes, bothUp, 0, holds, asks)
	got[0].Gang[0] = 7
	if !reflect.DeepEqual(asks, three()) || !reflect.DeepEqual(holds, hold(4)) || !reflect.DeepEqual(both, []int{0, 1}) {
		t.Error("an argument is changed")
	}
}
