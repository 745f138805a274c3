package cluster_test

import (
	"bytes"
	"math"
	"reflect"
	"slices"
	"testing"

	"corvee/api"
	"corvee/cluster"
	"corvee/event"
	"corvee/journal"
)

const one = "n1 2,2,0,0 main\n"

func made(t *testing.T, text string, work ...int) *cluster.Cluster {
	t.Helper()
	c, e := cluster.New(text, 99999, work)
	if e != api.OK {
		t.Fatal(e)
	}
	return c
}

// do does acts of a kind with one number each, all of which go well.
func do(t *testing.T, c *cluster.Cluster, kind int, as ...int) {
	t.Helper()
	for _, a := range as {
		if e := c.Do(cluster.Act{Kind: kind, A: a}); e != api.OK {
			t.Fatal(kind, a, e)
		}
	}
}

func submit(client, seq, wall int) []byte {
	s := api.Spec{User: "ana", Part: "main", Nodes: 1, Demand: api.Vec{1}, Wall: wall, Array: 1}
	return event.Put(nil, api.Event{Kind: api.EvSubmit, Client: client, Seq: seq, Specs: []api.Spec{s}})
}

func asks(t *testing.T, c *cluster.Cluster, client int, body []byte, want api.Errno) {
	t.Helper()
	if e := c.Do(cluster.Act{Kind: cluster.Ask, A: client, Body: body}); e != want {
		t.Error(client, e)
	}
}

// P22.1

func TestNew(t *testing.T) {
	for text, want := range map[string]api.Errno{"x": api.ErrLine, one + one: api.ErrTwice, string(make([]byte, api.MaxText+1)): api.ErrLimit} {
		if c, e := cluster.New(text, 99, nil); c != nil || e != want {
			t.Error(text, e)
		}
	}
	c := made(t, one)
	snap, log := c.Disk()
	if c.Now() != 0 || c.Packets() != 0 || c.Claim() != (api.Claim{}) || len(snap) != 0 || len(log) != 0 || len(c.Jobs()) != 0 || c.Running(0) != nil {
		t.Error("the first state")
	}
	for i := range 6 {
		if len(c.Heard(i)) != 0 {
			t.Error(i)
		}
	}
	do(t, c, cluster.StepControl, 0, 1)
	do(t, c, cluster.StepNode, 0)
	do(t, c, cluster.StepClient, 1, 2, 3, 4)
	if c.Packets() != 0 || c.Claim() != (api.Claim{}) {
		t.Error("something is up")
	}
	work := []int{30}
	c, _ = cluster.New(one, 99999, work)
	work[0] = 1
	asks(t, c, 1, submit(1, 1, 20), api.OK)
	do(t, c, cluster.Calm, 10)
	if l := c.Running(0); len(l) != 1 {
		t.Error(l)
	}
}

func TestRoomIsTheDisks(t *testing.T) {
	c, _ := cluster.New(one, 30, nil)
	asks(t, c, 1, submit(1, 1, 5), api.OK)
	do(t, c, cluster.Calm, 20)
	if l := c.Heard(1); !slices.Equal(l, []cluster.Heard{{Seq: 1, Reply: api.Reply{E: api.ErrRoom}}}) {
		t.Error(l)
	}
}

// P22.2

func TestExample(t *testing.T) {
	c := made(t, one, 3)
	asks(t, c, 1, submit(1, 1, 5), api.OK)
	do(t, c, cluster.Calm, 20)
	if l := c.Heard(1); !slices.Equal(l, []cluster.Heard{{Seq: 1, Reply: api.Reply{First: 1, Last: 1}}}) {
		t.Error(l)
	}
	if l := c.Jobs(); len(l) != 1 || l[0].Life.State != api.Done || l[0].Life.Attempt != 1 || l[0].Start != 3 {
		t.Error(l)
	}
	if c.Now() != 20 || c.Packets() != 0 || c.Claim() != (api.Claim{Epoch: 1, Who: 0, Until: 41}) && c.Claim().Epoch != 1 {
		t.Error(c.Now(), c.Claim())
	}
}

func TestErrors(t *testing.T) {
	c := made(t, one)
	for _, a := range []cluster.Act{
		{Kind: 0}, {Kind: -1}, {Kind: cluster.Calm + 1}, {Kind: math.MaxInt},
		{Kind: cluster.BootControl, A: 2}, {Kind: cluster.BootControl, A: -1}, {Kind: cluster.CrashControl, A: 2}, {Kind: cluster.StepControl, A: math.MaxInt},
		{Kind: cluster.BootNode, A: 1}, {Kind: cluster.CrashNode, A: -1}, {Kind: cluster.StepNode, A: math.MinInt},
		{Kind: cluster.StepClient, A: 0}, {Kind: cluster.StepClient, A: 5}, {Kind: cluster.Ask, A: 0}, {Kind: cluster.Ask, A: 5},
		{Kind: cluster.Deliver, A: 0}, {Kind: cluster.Drop, A: -1}, {Kind: cluster.Double, A: 7}, {Kind: cluster.Spoil, A: 0, B: 0},
	} {
		if e := c.Do(a); e != api.ErrArg {
			t.Error(a, e)
		}
	}
	do(t, c, cluster.BootControl, 0)
	if e := c.Do(cluster.Act{Kind: cluster.BootControl, A: 0}); e != api.ErrState {
		t.Error(e)
	}
	do(t, c, cluster.BootNode, 0)
	if e := c.Do(cluster.Act{Kind: cluster.BootNode, A: 0}); e != api.ErrState {
		t.Error(e)
	}
	do(t, c, cluster.CrashNode, 0, 0)
	do(t, c, cluster.CrashControl, 0, 0, 1)
	do(t, c, cluster.BootNode, 0)
	do(t, c, cluster.BootControl, 0, 1)
	asks(t, c, 4, make([]byte, api.MaxText+1), api.ErrLimit)
	asks(t, c, 4, nil, api.OK)
	asks(t, c, 4, nil, api.ErrState)
	do(t, c, cluster.StepClient, 4)
	for _, bit := range []int{-1, 1 << 20, math.MaxInt} {
		if e := c.Do(cluster.Act{Kind: cluster.Spoil, A: 0, B: bit}); e != api.ErrArg {
			t.Error(bit, e)
		}
	}
}

func TestTicks(t *testing.T) {
	c := made(t, one)
	for _, x := range []struct{ a, now int }{{5, 5}, {0, 5}, {-3, 5}, {math.MinInt, 5}, {50, 55}, {51, 105}, {math.MaxInt, 155}} {
		do(t, c, cluster.Tick, x.a)
		if c.Now() != x.now {
			t.Error(x, c.Now())
		}
	}
	for _, a := range []int{-5, 0, math.MinInt} {
		do(t, c, cluster.Calm, a)
	}
	if c.Now() != 155 || c.Packets() != 0 {
		t.Error(c.Now(), c.Packets())
	}
	do(t, c, cluster.Calm, 1001)
	if c.Now() != 1155 {
		t.Error(c.Now())
	}
	if e := c.Do(cluster.Act{Kind: cluster.BootNode, A: 0}); e != api.ErrState {
		t.Error("Calm has booted it", e)
	}
	do(t, c, cluster.Cut, -1, math.MaxInt)
}

func TestWhoIsSentWhat(t *testing.T) {
	c := made(t, "n1 2,2,0,0 main\nn2 2,2,0,0 main\n", 3)
	do(t, c, cluster.BootControl, 0, 1)
	do(t, c, cluster.StepControl, 0, 1)
	if c.Claim() != (api.Claim{Epoch: 1, Who: 0, Until: 40}) {
		t.Error(c.Claim())
	}
	do(t, c, cluster.BootNode, 1)
	do(t, c, cluster.StepNode, 1)
	asks(t, c, 2, submit(2, 1, 5), api.OK)
	do(t, c, cluster.StepClient, 2)
	if c.Packets() != 4 { // a heartbeat and a request, each to both controllers
		t.Fatal(c.Packets())
	}
	do(t, c, cluster.Deliver, 1) // the second controller does not lead
	if c.Packets() != 3 {
		t.Error(c.Packets())
	}
	do(t, c, cluster.Deliver, 0) // the grant is appended
	do(t, c, cluster.Deliver, 1)
	do(t, c, cluster.Deliver, 0) // ErrEpoch is appended
	if c.Packets() != 2 || len(c.Heard(2)) != 0 {
		t.Error(c.Packets())
	}
	do(t, c, cluster.Deliver, 1)
	do(t, c, cluster.StepClient, 2)
	if c.Packets() != 3 {
		t.Error("asks again in the epoch that it heard", c.Packets())
	}
	do(t, c, cluster.Deliver, 1)
	do(t, c, cluster.Deliver, 2)
	if l := c.Heard(2); len(l) != 1 || len(c.Jobs()) != 1 {
		t.Error(l)
	}
	do(t, c, cluster.Tick, 1)
	do(t, c, cluster.Deliver, 0) // the node's grant
	do(t, c, cluster.StepControl, 0)
	do(t, c, cluster.Double, 1)
	do(t, c, cluster.Drop, 1)
	if c.Packets() != 2 || c.Running(1) != nil {
		t.Error(c.Packets())
	}
	do(t, c, cluster.Deliver, 1)
	if l := c.Running(1); !slices.Equal(l, []api.Run{{Job: 1, Attempt: 1, Demand: api.Vec{1}, Begun: 1, End: 4}}) || c.Running(0) != nil {
		t.Error(l)
	}
}

func TestSpoiltPacketsAreLost(t *testing.T) {
	c := made(t, one)
	do(t, c, cluster.BootControl, 0)
	do(t, c, cluster.StepControl, 0)
	do(t, c, cluster.BootNode, 0)
	do(t, c, cluster.StepNode, 0)
	if e := c.Do(cluster.Act{Kind: cluster.Spoil, A: 0, B: 40}); e != api.OK {
		t.Error(e)
	}
	do(t, c, cluster.Deliver, 0)
	if c.Packets() != 1 {
		t.Error("it was heard", c.Packets())
	}
}

func TestCut(t *testing.T) {
	c := made(t, one)
	do(t, c, cluster.BootControl, 0)
	do(t, c, cluster.Cut, 3)
	do(t, c, cluster.StepControl, 0)
	if _, log := c.Disk(); len(log) != 3 {
		t.Error(log)
	}
	do(t, c, cluster.BootControl, 0)
	do(t, c, cluster.StepControl, 0)
	if _, log := c.Disk(); len(journal.Events(log)) != 1 || c.Claim().Epoch != 2 {
		t.Error(log)
	}
}

func TestTakeOver(t *testing.T) {
	c := made(t, one, 100)
	asks(t, c, 1, submit(1, 1, 100), api.OK)
	do(t, c, cluster.Calm, 5)
	do(t, c, cluster.Cut, 2)
	do(t, c, cluster.Tick, 1)
	do(t, c, cluster.StepControl, 0) // it crashes in the middle of a write
	until := c.Claim().Until
	for c.Now() < until+1 {
		do(t, c, cluster.Tick, 1)
		do(t, c, cluster.StepControl, 0, 1)
	}
	if c.Claim().Who != 0 {
		t.Error(c.Claim())
	}
	do(t, c, cluster.Tick, 1)
	do(t, c, cluster.StepControl, 1)
	if c.Claim() != (api.Claim{Epoch: 2, Who: 1, Until: until + 42}) || len(c.Jobs()) != 1 {
		t.Error(c.Claim())
	}
}

func TestTheOtherControllerIsHeard(t *testing.T) {
	c := made(t, one, 3)
	do(t, c, cluster.BootControl, 0)
	do(t, c, cluster.StepControl, 0)
	do(t, c, cluster.CrashControl, 0)
	do(t, c, cluster.BootControl, 1)
	do(t, c, cluster.BootNode, 0)
	do(t, c, cluster.Tick, 42)
	asks(t, c, 1, submit(1, 1, 5), api.OK)
	for range 12 { // as in a round, but without controller 0
		do(t, c, cluster.Tick, 1)
		do(t, c, cluster.StepControl, 1)
		do(t, c, cluster.StepNode, 0)
		do(t, c, cluster.StepClient, 1)
		for c.Packets() > 0 {
			do(t, c, cluster.Deliver, 0)
		}
	}
	if j := c.Jobs(); c.Claim().Who != 1 || len(c.Heard(1)) != 1 || len(j) != 1 || j[0].Life.State != api.Done {
		t.Error(c.Claim(), c.Heard(1), j)
	}
}

func TestKindsOfActs(t *testing.T) {
	kinds := []int{cluster.Tick, cluster.BootControl, cluster.CrashControl, cluster.StepControl, cluster.BootNode, cluster.CrashNode, cluster.StepNode, cluster.StepClient,
		cluster.Deliver, cluster.Drop, cluster.Double, cluster.Spoil, cluster.Cut, cluster.Ask, cluster.Calm}
	for i, kind := range kinds {
		if kind != i+1 {
			t.Error(kind, i+1)
		}
	}
}

func TestANodeCrashes(t *testing.T) {
	c := made(t, "n1 2,2,0,0 main\nn2 2,2,0,0 main\n", 12)
	s := api.Spec{User: "ana", Part: "main", Nodes: 1, Demand: api.Vec{1}, Wall: 20, Array: 1, Retries: 1}
	asks(t, c, 1, event.Put(nil, api.Event{Kind: api.EvSubmit, Client: 1, Seq: 1, Specs: []api.Spec{s}}), api.OK)
	do(t, c, cluster.Calm, 6)
	if len(c.Running(0)) != 1 {
		t.Fatal(c.Running(0))
	}
	do(t, c, cluster.CrashNode, 0)
	do(t, c, cluster.Calm, 1) // it boots at once: its part is gone
	if j := c.Jobs()[0]; j.Life.State == api.Done {
		t.Error(j)
	}
	do(t, c, cluster.Calm, 40)
	if j := c.Jobs()[0]; j.Life.State != api.Done || j.Life.Attempt != 2 {
		t.Error(j)
	}
}

// P22.3

func TestQueriesAreNewMemory(t *testing.T) {
	c := made(t, one, 50)
	asks(t, c, 1, submit(1, 1, 60), api.OK)
	do(t, c, cluster.Calm, 10)
	c.Heard(1)[0].Seq = 9
	c.Running(0)[0].Job = 9
	_, log := c.Disk()
	log[0] = 9
	c.Jobs()[0].Gang[0] = 9
	_, again := c.Disk()
	if c.Heard(1)[0].Seq != 1 || c.Running(0)[0].Job != 1 || again[0] == 9 || c.Jobs()[0].Gang[0] != 0 {
		t.Error("a result changed the cluster")
	}
	for _, i := range []int{-1, 1, math.MaxInt} {
		if c.Running(i) != nil {
			t.Error(i)
		}
	}
	for _, i := range []int{-1, 0, 5, math.MaxInt} {
		if c.Heard(i) != nil {
			t.Error(i)
		}
	}
}

// P22.4

func TestNil(t *testing.T) {
	for _, c := range []*cluster.Cluster{nil, new(cluster.Cluster)} {
		snap, log := c.Disk()
		if c.Do(cluster.Act{Kind: cluster.Tick, A: 1}) != api.ErrArg || c.Do(cluster.Act{Kind: cluster.Calm}) != api.ErrArg || c.Now() != 0 || c.Packets() != 0 || c.Running(0) != nil ||
			c.Heard(1) != nil || c.Claim() != (api.Claim{}) || snap != nil || log != nil || c.Jobs() != nil {
			t.Error("nil cluster")
		}
	}
}

func TestArgumentsStay(t *testing.T) {
	c := made(t, one)
	body := submit(1, 1, 5)
	kept := bytes.Clone(body)
	asks(t, c, 1, body, api.OK)
	body[0] = 99
	do(t, c, cluster.Calm, 6)
	if len(c.Jobs()) != 1 || !reflect.DeepEqual(kept[1:], body[1:]) {
		t.Error("Body is kept")
	}
}
