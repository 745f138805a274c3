package table_test

import (
	"bytes"
	"math"
	"reflect"
	"testing"

	"corvee/api"
	"corvee/fleet"
	"corvee/spec"
	"corvee/table"
)

func machines(t *testing.T, text string) *fleet.Fleet {
	t.Helper()
	f, e, at := fleet.Read(text)
	if e != api.OK {
		t.Fatal(e, at)
	}
	return f
}

func one(t *testing.T) *table.Table {
	return table.New(machines(t, "n1 2,2,0,0 main\n"))
}

// two is a table of two nodes that are up since tick 0.
func two(t *testing.T) *table.Table {
	tab := table.New(machines(t, "n1 2,2,0,0 main a\nn2 2,2,0,0 main b\n"))
	must(t, tab, back(0, 0))
	must(t, tab, back(1, 0))
	return tab
}

func parse(t *testing.T, text string) api.Spec {
	t.Helper()
	s, e, at := spec.Parse(text)
	if e != api.OK {
		t.Fatal(text, e, at)
	}
	return s
}

var seqs int

// by is an event of client 1 with the next number of all.
func by(e api.Event) api.Event {
	seqs++
	e.Client, e.Seq = 1, seqs
	return e
}

// short stands in front of what a spec says beside.
const short = "user=ana part=main nodes=1 demand=1,0,0,0 wall=5"

func submit(t *testing.T, texts ...string) api.Event {
	t.Helper()
	e := api.Event{Kind: api.EvSubmit}
	for _, s := range texts {
		e.Specs = append(e.Specs, parse(t, s))
	}
	return by(e)
}

func back(node, tick int) api.Event {
	return api.Event{Kind: api.EvBack, Node: node, Tick: tick}
}

func lost(node, tick int) api.Event {
	return api.Event{Kind: api.EvLost, Node: node, Tick: tick}
}

func pass(tick int) api.Event {
	return api.Event{Kind: api.EvPass, Tick: tick}
}

func over(job, attempt, node, how int) api.Event {
	return api.Event{Kind: api.EvOver, Job: job, Attempt: attempt, Node: node, How: how}
}

func on(kind, job int) api.Event {
	return by(api.Event{Kind: kind, Job: job})
}

func at(kind, node int) api.Event {
	return by(api.Event{Kind: kind, Node: node})
}

func must(t *testing.T, tab *table.Table, e api.Event) api.Reply {
	t.Helper()
	if err := tab.Would(e); err != api.OK {
		t.Fatal("Would", e, err)
	}
	r, err := tab.Apply(e)
	if err != api.OK {
		t.Fatal(e, err)
	}
	return r
}

// refused asks that an event is refused, and changes nothing.
func refused(t *testing.T, tab *table.Table, e api.Event, want api.Errno) {
	t.Helper()
	ahead := tab.Put()
	if err := tab.Would(e); err != want {
		t.Error("Would", e, err)
	}
	if r, err := tab.Apply(e); r != (api.Reply{}) || err != want {
		t.Error(e, r, err)
	}
	if !bytes.Equal(tab.Put(), ahead) {
		t.Error("changed", e)
	}
}

// is asks for a job's state, attempt, start and gang.
func is(t *testing.T, tab *table.Table, id int, s api.State, attempt, start int, gang ...int) {
	t.Helper()
	j, ok := tab.Job(id)
	if !ok || j.Id != id || j.Life.State != s || j.Life.Attempt != attempt || j.Start != start || !reflect.DeepEqual(append([]int{}, j.Gang...), append([]int{}, gang...)) {
		t.Errorf("job %d: %+v", id, j)
	}
}

// P14.1

func TestNew(t *testing.T) {
	if table.New(nil) != nil {
		t.Error("a table of no fleet")
	}
	tab := two(t)
	tab = table.New(machines(t, "n1 2,2,0,0 main\n"))
	up, drained, since := tab.Node(0)
	n, r := tab.Last(1)
	if tab.Epoch() != 0 || tab.Tick() != -1 || len(tab.Jobs()) != 0 || up || drained || since != -1 || n != 0 || r != (api.Reply{}) {
		t.Error("the first state")
	}
	ahead := tab.Put()
	if tab.Would(back(0, 3)) != api.OK || tab.Would(submit(t, short)) != api.OK || tab.Would(pass(1)) != api.OK || !bytes.Equal(tab.Put(), ahead) {
		t.Error("Would changes something")
	}
}

func TestFleetIsKeptByValue(t *testing.T) {
	f := machines(t, "n1 2,2,0,0 main\n")
	tab := table.New(f)
	*f = fleet.Fleet{}
	must(t, tab, submit(t, short))
}

// P14.2

func TestExample(t *testing.T) {
	tab := one(t)
	must(t, tab, back(0, 0))
	if r := must(t, tab, submit(t, short+" array=3")); r != (api.Reply{First: 1, Last: 3}) {
		t.Error(r)
	}
	must(t, tab, pass(1))
	is(t, tab, 1, api.Running, 1, 1, 0)
	is(t, tab, 2, api.Running, 1, 1, 0)
	is(t, tab, 3, api.Pending, 0, 14, 0)
	if r := must(t, tab, over(1, 1, 0, api.HowDone)); r != (api.Reply{}) {
		t.Error(r)
	}
	is(t, tab, 1, api.Done, 1, 1, 0)
	must(t, tab, pass(2))
	is(t, tab, 3, api.Running, 1, 2, 0)
}

func TestErrorsOfAll(t *testing.T) {
	tab := one(t)
	refused(t, tab, api.Event{}, api.ErrEvent)
	refused(t, tab, api.Event{Kind: api.EvPass, Tick: -1}, api.ErrEvent)
	e := submit(t, short)
	must(t, tab, e)
	refused(t, tab, e, api.ErrPast)
	e.Seq--
	refused(t, tab, e, max(api.ErrPast, api.ErrEvent))
	e.Seq, e.Specs[0].Part = e.Seq+1, "none"
	refused(t, tab, e, api.ErrPast) // ahead of ErrPart
	e.Client = 2
	refused(t, tab, e, api.ErrPart)
	e.Specs[0].Part = "main"
	e.Seq = 1
	must(t, tab, e)
}

func TestEpoch(t *testing.T) {
	tab := one(t)
	must(t, tab, api.Event{Kind: api.EvEpoch, Epoch: 3})
	refused(t, tab, api.Event{Kind: api.EvEpoch, Epoch: 3}, api.ErrPast)
	refused(t, tab, api.Event{Kind: api.EvEpoch, Epoch: 2}, api.ErrPast)
	if tab.Epoch() != 3 {
		t.Error(tab.Epoch())
	}
	if r := must(t, tab, api.Event{Kind: api.EvEpoch, Epoch: 1 << 40}); r != (api.Reply{}) {
		t.Error(r)
	}
}

func TestSubmit(t *testing.T) {
	tab := table.New(machines(t, "n1 2,2,0,0 main\nn2 9,0,0,0 big\n"))
	refused(t, tab, submit(t, short, "user=a part=none nodes=1 demand=9,9,0,0 wall=1", "user=a part=big nodes=2 demand=1,0,0,0 wall=1"), api.ErrPart)
	refused(t, tab, submit(t, short, "user=a part=main nodes=1 demand=9,9,0,0 wall=1", "user=a part=none nodes=2 demand=1,0,0,0 wall=1"), api.ErrNever)
	refused(t, tab, submit(t, short+" after=1"), api.ErrJob)
	refused(t, tab, submit(t, short+" after=-2"), api.ErrJob)
	refused(t, tab, submit(t, short+" after=-1"), api.ErrCycle)
	refused(t, tab, submit(t, short+" after=-2", short+" after=-1"), api.ErrCycle)
	if r := must(t, tab, submit(t, short+" array=2 retries=3 held=1", short+" prio=4 after=-1")); r != (api.Reply{First: 1, Last: 3}) {
		t.Error(r)
	}
	is(t, tab, 1, api.Held, 0, -1)
	is(t, tab, 3, api.Pending, 0, -1)
	j, _ := tab.Job(2)
	if j.Spec.Array != 1 || j.Life.Left != 3 || len(j.Parts) != 0 || !j.Spec.Held || j.Spec.Retries != 3 {
		t.Error(j)
	}
	if j, _ := tab.Job(3); !reflect.DeepEqual(j.Spec.After, []int{1, 2}) || j.Spec.Prio != 4 {
		t.Error(j)
	}
	must(t, tab, submit(t, short+" array=20", short+" array=20 after=-1,3", short+" array=20", short+" array=20"))
	if j, _ := tab.Job(24); len(j.Spec.After) != 21 || j.Spec.After[0] != 3 || j.Spec.After[20] != 23 {
		t.Error(j)
	}
	refused(t, tab, submit(t, short+" array=18"), api.ErrTable)
	refused(t, tab, submit(t, short+" array=18 after=-1"), api.ErrTable) // ahead of ErrCycle
	refused(t, tab, submit(t, short+" array=18", "user=a part=none nodes=1 demand=1,0,0,0 wall=1"), api.ErrPart)
	if r := must(t, tab, submit(t, short+" array=17")); r != (api.Reply{First: 84, Last: 100}) {
		t.Error(r)
	}
	refused(t, tab, submit(t, short), api.ErrTable)
}

func TestSubmitBehindALostJob(t *testing.T) {
	tab := one(t)
	must(t, tab, submit(t, short))
	must(t, tab, on(api.EvCancel, 1))
	must(t, tab, submit(t, short+" after=1", short+" held=1 after=-1"))
	is(t, tab, 2, api.Cancelled, 0, -1)
	is(t, tab, 3, api.Cancelled, 0, -1)
}

func TestDoomGoesOn(t *testing.T) {
	tab := one(t)
	must(t, tab, submit(t, short+" after=-2", short+" held=1 after=-3", short, short+" after=-1", short+" held=1"))
	must(t, tab, on(api.EvCancel, 3))
	for id := 1; id <= 4; id++ {
		is(t, tab, id, api.Cancelled, 0, -1)
	}
	is(t, tab, 5, api.Held, 0, -1)
}

func TestCancelHoldRelease(t *testing.T) {
	tab := two(t)
	must(t, tab, submit(t, short+" array=4", short+" after=-1", short+" after=-2"))
	for _, kind := range []int{api.EvCancel, api.EvHold, api.EvRelease} {
		refused(t, tab, on(kind, 7), api.ErrJob)
	}
	refused(t, tab, on(api.EvRelease, 1), api.ErrState)
	if r := must(t, tab, on(api.EvHold, 1)); r != (api.Reply{First: 1, Last: 1}) {
		t.Error(r)
	}
	refused(t, tab, on(api.EvHold, 1), api.ErrState)
	must(t, tab, pass(1))
	is(t, tab, 1, api.Held, 0, -1)
	is(t, tab, 2, api.Running, 1, 1, 0)
	is(t, tab, 3, api.Running, 1, 1, 0)
	is(t, tab, 4, api.Running, 1, 1, 1)
	must(t, tab, on(api.EvRelease, 1))
	is(t, tab, 1, api.Pending, 0, -1)
	refused(t, tab, on(api.EvHold, 2), api.ErrState)
	must(t, tab, on(api.EvCancel, 2))
	is(t, tab, 2, api.Ending, 1, 1, 0)
	refused(t, tab, on(api.EvCancel, 2), api.ErrState)
	is(t, tab, 5, api.Pending, 0, -1)
	must(t, tab, over(2, 1, 0, api.HowGone))
	is(t, tab, 2, api.Cancelled, 1, 1, 0)
	is(t, tab, 5, api.Cancelled, 0, -1)
	is(t, tab, 6, api.Cancelled, 0, -1)
	must(t, tab, submit(t, "user=z part=main nodes=2 demand=2,0,0,0 wall=5"))
	must(t, tab, pass(2))
	is(t, tab, 7, api.Pending, 0, 14, 0, 1)
	must(t, tab, on(api.EvHold, 7))
	is(t, tab, 7, api.Held, 0, -1)
	must(t, tab, on(api.EvCancel, 7))
	refused(t, tab, on(api.EvCancel, 7), api.ErrState)
	is(t, tab, 7, api.Cancelled, 0, -1)
}

func TestOver(t *testing.T) {
	tab := two(t)
	must(t, tab, submit(t, "user=a part=main nodes=2 demand=1,0,0,0 wall=5 retries=1", short+" after=-1"))
	refused(t, tab, over(3, 1, 0, api.HowDone), api.ErrJob)
	refused(t, tab, over(1, 1, 0, api.HowDone), api.ErrState)
	must(t, tab, pass(3))
	is(t, tab, 1, api.Running, 1, 3, 0, 1)
	refused(t, tab, over(1, 2, 0, api.HowDone), api.ErrState)
	refused(t, tab, over(1, 1, 2, api.HowDone), api.ErrState)
	must(t, tab, over(1, 1, 1, api.HowDone))
	refused(t, tab, over(1, 1, 1, api.HowGone), api.ErrState)
	if j, _ := tab.Job(1); !reflect.DeepEqual(j.Parts, []api.Part{{Node: 0}, {Node: 1, How: api.HowDone}}) || tab.Busy(0) != (api.Vec{1}) || tab.Busy(1) != (api.Vec{}) {
		t.Error(j)
	}
	must(t, tab, over(1, 1, 0, api.HowGone))
	is(t, tab, 1, api.Pending, 1, -1)
	is(t, tab, 2, api.Pending, 0, -1)
	must(t, tab, pass(4))
	is(t, tab, 1, api.Running, 2, 4, 0, 1)
	must(t, tab, over(1, 2, 0, api.HowWall))
	is(t, tab, 1, api.Ending, 2, 4, 0, 1)
	must(t, tab, over(1, 2, 1, api.HowGone))
	is(t, tab, 1, api.TimedOut, 2, 4, 0, 1)
	is(t, tab, 2, api.Cancelled, 0, -1)
	if j, _ := tab.Job(1); len(j.Parts) != 0 {
		t.Error(j)
	}
}

func TestLostAndBack(t *testing.T) {
	tab := two(t)
	node := func(i int, up, drained bool, since int) {
		t.Helper()
		if u, d, s := tab.Node(i); u != up || d != drained || s != since {
			t.Error(i, u, d, s)
		}
	}
	refused(t, tab, lost(2, 5), api.ErrNode)
	refused(t, tab, back(2, 5), api.ErrNode)
	refused(t, tab, back(0, 5), api.ErrState)
	must(t, tab, submit(t, "user=a part=main nodes=2 demand=1,0,0,0 wall=5", short+" retries=1", short))
	must(t, tab, pass(5))
	is(t, tab, 2, api.Running, 1, 5, 0)
	is(t, tab, 3, api.Running, 1, 5, 1)
	refused(t, tab, lost(0, 4), api.ErrPast)
	refused(t, tab, lost(9, 4), api.ErrNode)
	must(t, tab, lost(0, 5))
	node(0, false, false, 0)
	is(t, tab, 1, api.Ending, 1, 5, 0, 1)
	is(t, tab, 2, api.Pending, 1, -1)
	is(t, tab, 3, api.Running, 1, 5, 1)
	refused(t, tab, lost(0, 5), api.ErrState)
	refused(t, tab, back(0, 4), api.ErrPast)
	must(t, tab, lost(1, 9))
	is(t, tab, 1, api.Failed, 1, 5, 0, 1)
	is(t, tab, 3, api.Failed, 1, 5, 1)
	must(t, tab, back(0, 6))
	node(0, true, false, 6)
	must(t, tab, pass(6)) // it is up since this very tick: not yet
	is(t, tab, 2, api.Pending, 1, -1)
	must(t, tab, pass(7))
	is(t, tab, 2, api.Running, 2, 7, 0)
}

func TestDrainAndFill(t *testing.T) {
	tab := two(t)
	refused(t, tab, at(api.EvDrain, 2), api.ErrNode)
	refused(t, tab, at(api.EvFill, 2), api.ErrNode)
	refused(t, tab, at(api.EvFill, 0), api.ErrState)
	must(t, tab, submit(t, "user=a part=a nodes=1 demand=2,0,0,0 wall=5", "user=a part=a nodes=1 demand=2,0,0,0 wall=5", "user=a part=main nodes=1 demand=2,0,0,0 wall=5"))
	must(t, tab, pass(1))
	is(t, tab, 2, api.Pending, 0, 14, 0)
	if r := must(t, tab, at(api.EvDrain, 0)); r != (api.Reply{}) {
		t.Error(r)
	}
	refused(t, tab, at(api.EvDrain, 0), api.ErrState)
	if up, drained, _ := tab.Node(0); !up || !drained {
		t.Error(up, drained)
	}
	must(t, tab, pass(2))
	is(t, tab, 1, api.Running, 1, 1, 0)
	is(t, tab, 2, api.Pending, 0, -1)
	is(t, tab, 3, api.Running, 1, 1, 1)
	must(t, tab, at(api.EvFill, 0))
	must(t, tab, pass(3))
	is(t, tab, 2, api.Pending, 0, 14, 0)
}

func TestClientsAreKept(t *testing.T) {
	tab := one(t)
	e := submit(t, short+" array=2")
	e.Client, e.Seq = 16, 1<<40-1
	must(t, tab, e)
	if n, r := tab.Last(16); n != 1<<40-1 || r != (api.Reply{First: 1, Last: 2}) {
		t.Error(n, r)
	}
	must(t, tab, api.Event{Kind: api.EvDrain, Client: 16, Seq: 1 << 40})
	if n, r := tab.Last(16); n != 1<<40 || r != (api.Reply{}) {
		t.Error(n, r)
	}
	for _, id := range []int{0, -1, 1, 17, math.MaxInt} {
		if n, r := tab.Last(id); n != 0 || r != (api.Reply{}) {
			t.Error(id, n, r)
		}
	}
}

// P14.3

func TestPass(t *testing.T) {
	tab := two(t)
	must(t, tab, pass(0))
	refused(t, tab, pass(0), api.ErrPast)
	must(t, tab, submit(t, "user=a part=main nodes=1 demand=2,0,0,0 wall=4", "user=a part=main nodes=2 demand=2,0,0,0 wall=3", "user=a part=main nodes=1 demand=2,0,0,0 wall=5", "user=a part=a nodes=1 demand=2,0,0,0 wall=4"))
	must(t, tab, pass(7))
	if tab.Tick() != 7 {
		t.Error(tab.Tick())
	}
	is(t, tab, 1, api.Running, 1, 7, 0)
	is(t, tab, 2, api.Pending, 0, 19, 0, 1)
	is(t, tab, 3, api.Pending, 0, 30, 0) // it is 13 ticks long: too long to fit ahead of 2
	is(t, tab, 4, api.Pending, 0, 43, 0)
	must(t, tab, submit(t, "user=b part=main nodes=1 demand=2,0,0,0 wall=3"))
	must(t, tab, pass(8))
	is(t, tab, 5, api.Running, 1, 8, 1)
	must(t, tab, over(1, 1, 0, api.HowDone))
	must(t, tab, pass(9))
	is(t, tab, 2, api.Pending, 0, 19, 0, 1)
}

func TestLateJobs(t *testing.T) {
	tab := two(t)
	must(t, tab, submit(t, "user=a part=main nodes=2 demand=1,0,0,0 wall=5 retries=1", short+" after=-1"))
	must(t, tab, pass(3))
	must(t, tab, pass(15))
	is(t, tab, 1, api.Running, 1, 3, 0, 1)
	must(t, tab, pass(16)) // 3 + 8 + 5: it is settled, and begins again
	is(t, tab, 1, api.Running, 2, 16, 0, 1)
	must(t, tab, over(1, 2, 0, api.HowDone))
	must(t, tab, pass(29))
	is(t, tab, 1, api.Failed, 2, 16, 0, 1)
	is(t, tab, 2, api.Cancelled, 0, -1)
}

func TestTurnsOfUsers(t *testing.T) {
	tab := one(t)
	must(t, tab, back(0, 0))
	full := " part=main nodes=1 demand=2,0,0,0 wall=2"
	must(t, tab, submit(t, "user=b"+full, "user=b"+full, "user=c"+full+" prio=9", "user=a"+full, "user=b"+full+" prio=1"))
	must(t, tab, pass(1))
	is(t, tab, 4, api.Running, 1, 1, 0)
	is(t, tab, 5, api.Pending, 0, 11, 0)
	is(t, tab, 3, api.Pending, 0, 21, 0)
	is(t, tab, 1, api.Pending, 0, 31, 0)
	is(t, tab, 2, api.Pending, 0, 41, 0)
}

func TestOnlyReadyJobsArePromised(t *testing.T) {
	tab := two(t)
	must(t, tab, submit(t, short, short+" after=-1", short+" held=1"))
	must(t, tab, pass(1))
	is(t, tab, 2, api.Pending, 0, -1)
	is(t, tab, 3, api.Held, 0, -1)
	must(t, tab, over(1, 1, 0, api.HowDone))
	must(t, tab, pass(2))
	is(t, tab, 2, api.Running, 1, 2, 0)
	must(t, tab, submit(t, "user=a part=main nodes=2 demand=2,0,0,0 wall=1"))
	must(t, tab, pass(3))
	is(t, tab, 4, api.Pending, 0, 15, 0, 1)
	must(t, tab, lost(1, 3))
	must(t, tab, pass(4))
	is(t, tab, 4, api.Pending, 0, -1)
}

// P14.4

func TestQueriesAreNewMemory(t *testing.T) {
	tab := two(t)
	must(t, tab, submit(t, short, "user=a part=main nodes=2 demand=1,0,0,0 wall=5", short+" after=-1,-2"))
	must(t, tab, pass(1))
	ahead := tab.Put()
	for _, j := range append(tab.Jobs(), func() api.Job { j, _ := tab.Job(2); return j }()) {
		for _, l := range [][]int{j.Gang, j.Spec.After} {
			for i := range l {
				l[i] = 77
			}
		}
		for i := range j.Parts {
			j.Parts[i].How = 3
		}
	}
	tab.Put()[0] = 9
	if !bytes.Equal(tab.Put(), ahead) {
		t.Error("a result changed the table")
	}
	for _, id := range []int{0, -1, 4, math.MaxInt} {
		if j, ok := tab.Job(id); ok || !reflect.DeepEqual(j, api.Job{}) {
			t.Error(id, j)
		}
	}
	for _, i := range []int{-1, 2, math.MaxInt} {
		up, drained, since := tab.Node(i)
		if up || drained || since != -1 || tab.Busy(i) != (api.Vec{}) {
			t.Error(i, up, drained, since)
		}
	}
	if tab.Busy(0) != (api.Vec{2}) || tab.Busy(1) != (api.Vec{1}) {
		t.Error(tab.Busy(0), tab.Busy(1))
	}
}

// P14.7

func TestNil(t *testing.T) {
	for _, tab := range []*table.Table{nil, new(table.Table)} {
		r, e := tab.Apply(pass(1))
		j, ok := tab.Job(1)
		up, drained, since := tab.Node(0)
		n, told := tab.Last(1)
		if tab.Would(api.Event{}) != api.ErrArg || r != (api.Reply{}) || e != api.ErrArg || tab.Epoch() != 0 || tab.Tick() != -1 || ok || !reflect.DeepEqual(j, api.Job{}) ||
			tab.Jobs() != nil || up || drained || since != -1 || tab.Busy(0) != (api.Vec{}) || n != 0 || told != (api.Reply{}) || tab.Put() != nil {
			t.Error("nil table")
		}
	}
}
