package control_test

import (
	"bytes"
	"math"
	"math/rand"
	"reflect"
	"testing"

	"corvee/api"
	"corvee/control"
	"corvee/disk"
	"corvee/event"
	"corvee/fleet"
	"corvee/frame"
	"corvee/journal"
	"corvee/lease"
	"corvee/table"
)

const nodes = "n1 2,2,0,0 main\nn2 2,2,0,0 main\n"

func machines(t *testing.T) *fleet.Fleet {
	t.Helper()
	f, e, _ := fleet.Read(nodes)
	if e != api.OK {
		t.Fatal(e)
	}
	return f
}

// leader is controller 0, booted and leading since tick 0, on a disk of that room.
func leader(t *testing.T, room int) (*control.Control, *disk.Disk) {
	t.Helper()
	d := disk.New(room)
	c := control.New(0, d, machines(t))
	if e := c.Boot(0); e != api.OK {
		t.Fatal(e)
	}
	sends(t, c.Step(0))
	leads(t, c, 1, 40)
	return c, d
}

func leads(t *testing.T, c *control.Control, epoch, until int) {
	t.Helper()
	if got := c.Claim(); got.Epoch != epoch || got.Until != until || (c.Table() != nil) != (epoch > 0) {
		t.Error(got)
	}
}

// sends holds messages against those that are wanted.
func sends(t *testing.T, got []api.Message, want ...api.Message) {
	t.Helper()
	if !reflect.DeepEqual(append([]api.Message{}, got...), append([]api.Message{}, want...)) {
		t.Errorf("%v, not %v", got, want)
	}
}

// logs holds the events that the disk tells against those that are wanted, from one on.
func logs(t *testing.T, d *disk.Disk, from int, want ...api.Event) {
	t.Helper()
	got := journal.Events(d.Log())
	if len(got) != from+len(want) {
		t.Fatal(got)
	}
	for i, e := range want {
		if !bytes.Equal(event.Put(nil, got[from+i]), event.Put(nil, e)) {
			t.Errorf("%v, not %v", got[from+i], e)
		}
	}
}

// jobs is the jobs that the disk tells.
func jobs(t *testing.T, d *disk.Disk) []api.Job {
	t.Helper()
	tab, _, _, e := journal.Replay(machines(t), d.Snap(), d.Log())
	if e != api.OK {
		t.Fatal(e)
	}
	return tab.Jobs()
}

func beat(node, boot int) api.Message {
	return api.Message{Kind: api.MsgBeat, Node: node, Boot: boot}
}

func granted(epoch, node, sent int) api.Message {
	return api.Message{Kind: api.MsgGrant, Epoch: epoch, Node: node, Sent: sent, Until: sent + api.Lease}
}

func report(job, attempt, node, how int) api.Message {
	return api.Message{Kind: api.MsgReport, Node: node, Job: job, Attempt: attempt, How: how}
}

func ack(epoch, job, attempt, node int) api.Message {
	return api.Message{Kind: api.MsgAck, Epoch: epoch, Node: node, Job: job, Attempt: attempt}
}

func launch(epoch, job, attempt, node, start, wall int) api.Message {
	return api.Message{Kind: api.MsgLaunch, Epoch: epoch, Node: node, Job: job, Attempt: attempt, Start: start, Wall: wall, Demand: api.Vec{1}}
}

func kill(epoch, job, attempt, node int) api.Message {
	return api.Message{Kind: api.MsgKill, Epoch: epoch, Node: node, Job: job, Attempt: attempt}
}

// job is a spec of so many nodes.
func job(nodes, wall, retries int) api.Spec {
	return api.Spec{User: "ana", Part: "main", Nodes: nodes, Demand: api.Vec{1}, Wall: wall, Array: 1, Retries: retries}
}

func submit(seq int, specs ...api.Spec) api.Event {
	return api.Event{Kind: api.EvSubmit, Client: 1, Seq: seq, Specs: specs}
}

// ask is a request as client 1 sends it.
func ask(epoch int, e api.Event) api.Message {
	return api.Message{Kind: api.MsgAsk, Epoch: epoch, Client: 1, Seq: e.Seq, Body: event.Put(nil, e)}
}

func reply(epoch, seq int, e api.Errno, first, last int) api.Message {
	return api.Message{Kind: api.MsgReply, Epoch: epoch, Client: 1, Seq: seq, Reply: api.Reply{E: e, First: first, Last: last}}
}

// running is a leader with both nodes up since 1, and job 1 with so many nodes running since 2.
func running(t *testing.T, s api.Spec) (*control.Control, *disk.Disk) {
	t.Helper()
	c, d := leader(t, 99999)
	c.Hear(beat(0, 0), 1)
	c.Hear(beat(1, 0), 1)
	sends(t, c.Hear(ask(1, submit(1, s)), 1), reply(1, 1, api.OK, 1, 1))
	var want []api.Message
	for i := range s.Nodes {
		want = append(want, launch(1, 1, 1, i, 2, s.Wall))
	}
	sends(t, c.Step(2), want...)
	return c, d
}

// P21.1

func TestNewBootCrash(t *testing.T) {
	d, f := disk.New(99), machines(t)
	if control.New(-1, d, f) != nil || control.New(0, nil, f) != nil || control.New(0, d, nil) != nil {
		t.Error("New of what may not be")
	}
	c := control.New(7, d, f)
	if c.Up() || c.Step(0) != nil || c.Hear(beat(0, 0), 0) != nil {
		t.Error("not up")
	}
	leads(t, c, 0, 0)
	for _, now := range []int{-1, api.MaxTick, math.MaxInt} {
		if e := c.Boot(now); e != api.ErrArg || c.Up() {
			t.Error(now, e)
		}
	}
	if e := c.Boot(5); e != api.OK || !c.Up() {
		t.Error(e)
	}
	leads(t, c, 0, 0)
	if e := c.Boot(5); e != api.ErrState {
		t.Error(e)
	}
	if e := c.Boot(4); e != api.ErrArg {
		t.Error(e)
	}
	c.Step(4)
	leads(t, c, 0, 0)
	c.Step(6)
	leads(t, c, 1, 46)
	if d.Claim() != (api.Claim{Epoch: 1, Who: 7, Until: 46}) {
		t.Error(d.Claim())
	}
	c.Crash()
	if c.Up() || c.Step(7) != nil {
		t.Error("crashed")
	}
	leads(t, c, 0, 0)
	if e := c.Boot(6); e != api.ErrArg {
		t.Error("ticks go back", e)
	}
	c.Boot(8)
	c.Step(8)
	leads(t, c, 2, 48)
}

// P21.2

func TestTakeOver(t *testing.T) {
	d, f := disk.New(9999), machines(t)
	a, b := control.New(0, d, f), control.New(1, d, f)
	a.Boot(0)
	b.Boot(0)
	sends(t, a.Step(0))
	sends(t, b.Step(0))
	leads(t, a, 1, 40)
	leads(t, b, 0, 0)
	sends(t, a.Hear(beat(0, 0), 1), granted(1, 0, 1))
	b.Step(41)
	leads(t, b, 0, 0)
	b.Step(42)
	leads(t, b, 2, 82)
	logs(t, d, 0, api.Event{Kind: api.EvEpoch, Epoch: 1}, api.Event{Kind: api.EvBack, Tick: 1}, api.Event{Kind: api.EvEpoch, Epoch: 2})
	leads(t, a, 1, 40) // as far as it knows
	sends(t, a.Hear(beat(0, 0), 43))
	leads(t, a, 0, 0)
	sends(t, a.Step(44))
	leads(t, a, 0, 0)
}

func TestClaimLapsesInAnyHear(t *testing.T) {
	c, _ := leader(t, 999)
	c.Hear(api.Message{}, 39)
	leads(t, c, 1, 40)
	c.Hear(api.Message{}, 40)
	leads(t, c, 0, 0)
}

func TestRenewal(t *testing.T) {
	c, d := leader(t, 999)
	c.Step(19)
	leads(t, c, 1, 40)
	c.Step(20)
	leads(t, c, 1, 60)
	if d.Claim().Until != 60 {
		t.Error(d.Claim())
	}
	c.Step(59)
	leads(t, c, 1, 99)
	c.Step(99) // lapsed: it takes the lead anew
	leads(t, c, 2, 139)
	logs(t, d, 0, api.Event{Kind: api.EvEpoch, Epoch: 1}, api.Event{Kind: api.EvEpoch, Epoch: 2})
	d.Swap(d.Claim(), api.Claim{Epoch: 5, Who: 9, Until: 500})
	c.Step(100)
	leads(t, c, 2, 139) // there was nothing to write: it does not know yet
	c.Step(119)
	leads(t, c, 0, 0)
	if d.Claim().Epoch != 5 {
		t.Error(d.Claim())
	}
}

func TestTakeFails(t *testing.T) {
	f := machines(t)
	d := disk.New(9999)
	d.Swap(api.Claim{}, api.Claim{Epoch: 1})
	two, _ := journal.Record(1, api.Event{Kind: api.EvPass, Tick: 4})
	d.Append(1, 0, append(two, two...)) // a log that can't be replayed
	c := control.New(0, d, f)
	c.Boot(0)
	sends(t, c.Step(3))
	leads(t, c, 0, 0)
	if d.Claim() != (api.Claim{Epoch: 2, Who: 0, Until: 43}) {
		t.Error(d.Claim())
	}
	d = disk.New(3) // no room even for the first event
	c = control.New(0, d, f)
	c.Boot(0)
	sends(t, c.Step(3))
	leads(t, c, 0, 0)
	if !c.Up() {
		t.Error("it is up still")
	}
	d = disk.New(999)
	c = control.New(0, d, f)
	c.Boot(0)
	d.Cut(3)
	sends(t, c.Step(3))
	leads(t, c, 0, 0)
	if c.Up() || len(d.Log()) != 3 {
		t.Error("a cut write is a crash")
	}
	c.Boot(4)
	c.Step(4)
	leads(t, c, 2, 44)
	logs(t, d, 0, api.Event{Kind: api.EvEpoch, Epoch: 2})
}

func TestStepLosesNodes(t *testing.T) {
	c, d := running(t, job(2, 20, 1))
	c.Hear(beat(1, 0), 9)
	sends(t, c.Step(24), []api.Message{}...)
	logs(t, d, 5, api.Event{Kind: api.EvPass, Tick: 24})
	sends(t, c.Step(25), kill(1, 1, 1, 1)) // node 0 was granted its lease at 1
	logs(t, d, 6, api.Event{Kind: api.EvLost, Tick: 25}, api.Event{Kind: api.EvPass, Tick: 25})
	sends(t, c.Step(28))
	sends(t, c.Step(29), kill(1, 1, 1, 1))
	c.Step(33)
	if j := jobs(t, d)[0]; j.Life.State != api.Pending || j.Life.Left != 0 {
		t.Error(j)
	}
}

func TestANewLeaderWaitsForNodes(t *testing.T) {
	c, d := running(t, job(1, 100, 0))
	c.Step(20)
	b := control.New(1, d, machines(t))
	b.Boot(0)
	b.Step(62)
	leads(t, b, 2, 102)
	b.Step(85)
	if j := jobs(t, d)[0]; j.Life.State != api.Running {
		t.Error(j)
	}
	b.Step(86) // 62 + 24: whatever the old leader granted is over
	if j := jobs(t, d)[0]; j.Life.State != api.Failed {
		t.Error(j)
	}
}

func TestStepPasses(t *testing.T) {
	c, d := leader(t, 9999)
	c.Step(1)
	logs(t, d, 0, api.Event{Kind: api.EvEpoch, Epoch: 1}) // nothing to plan: no pass
	held := job(1, 5, 0)
	held.Held = true
	c.Hear(ask(1, submit(1, held)), 1)
	c.Step(2)
	logs(t, d, 2)
	c.Hear(ask(1, api.Event{Kind: api.EvRelease, Client: 1, Seq: 2, Job: 1}), 2)
	c.Step(2)
	logs(t, d, 3, api.Event{Kind: api.EvPass, Tick: 2})
	c.Step(2)
	logs(t, d, 4)
	c.Step(3)
	logs(t, d, 4, api.Event{Kind: api.EvPass, Tick: 3})
	c.Hear(ask(1, api.Event{Kind: api.EvCancel, Client: 1, Seq: 3, Job: 1}), 3)
	c.Step(4)
	logs(t, d, 6)
}

func TestOrdersAreSentAgain(t *testing.T) {
	c, _ := running(t, job(2, 20, 0))
	sends(t, c.Step(2))
	sends(t, c.Step(5))
	sends(t, c.Step(6), launch(1, 1, 1, 0, 2, 20), launch(1, 1, 1, 1, 2, 20))
	c.Hear(report(1, 1, 1, api.HowDone), 7)
	sends(t, c.Step(10), launch(1, 1, 1, 0, 2, 20)) // 2 + 8: the last time
	sends(t, c.Step(14))
	c.Hear(ask(1, api.Event{Kind: api.EvCancel, Client: 1, Seq: 2, Job: 1}), 14)
	sends(t, c.Step(14), kill(1, 1, 1, 0)) // another kind: it was never sent
	sends(t, c.Step(17))
	sends(t, c.Step(18), kill(1, 1, 1, 0))
}

func TestOrdersOfSeveralJobs(t *testing.T) {
	c, _ := leader(t, 9999)
	c.Hear(beat(0, 0), 1)
	c.Hear(beat(1, 0), 1)
	array := job(1, 9, 1)
	array.Array = 3
	c.Hear(ask(1, submit(1, array)), 1)
	sends(t, c.Step(2), launch(1, 1, 1, 0, 2, 9), launch(1, 2, 1, 0, 2, 9), launch(1, 3, 1, 1, 2, 9))
	c.Hear(report(2, 1, 0, api.HowGone), 3)
	sends(t, c.Step(3), launch(1, 2, 2, 0, 3, 9)) // another attempt
}

// P21.3

func TestHearBeat(t *testing.T) {
	c, d := leader(t, 9999)
	sends(t, c.Hear(beat(2, 0), 1))
	sends(t, c.Hear(beat(1, 0), 1), granted(1, 1, 1))
	logs(t, d, 1, api.Event{Kind: api.EvBack, Node: 1, Tick: 1})
	sends(t, c.Hear(beat(1, 0), 3), granted(1, 1, 3))
	logs(t, d, 2)
	wrong := beat(1, 0)
	wrong.Job = 1
	sends(t, c.Hear(wrong, 3))
	sends(t, c.Hear(beat(1, 0), 2)) // a tick that is past
}

func TestBeatOfANodeThatBootedAgain(t *testing.T) {
	c, d := running(t, job(2, 20, 0))
	c.Step(9)
	sends(t, c.Hear(beat(0, 1), 10), granted(1, 0, 10))
	logs(t, d, 6)
	sends(t, c.Hear(beat(0, 2), 11), granted(1, 0, 11)) // it booted at Start: its part can't run any more
	logs(t, d, 6, api.Event{Kind: api.EvOver, Job: 1, Attempt: 1, Node: 0, How: api.HowGone})
	sends(t, c.Hear(beat(0, 2), 12), granted(1, 0, 12))
	logs(t, d, 7)
}

func TestBeatWithoutRoom(t *testing.T) {
	d := disk.New(30)
	c := control.New(0, d, machines(t))
	c.Boot(0)
	c.Step(0)
	leads(t, c, 1, 40)
	sends(t, c.Hear(beat(0, 0), 1), granted(1, 0, 1))
	log := len(d.Log())
	for i := range 5 {
		sends(t, c.Hear(beat(1, 0), 2+i), granted(1, 1, 2+i)) // compacting makes room
	}
	if len(d.Snap()) == 0 || len(d.Log()) >= log+10 {
		t.Error("not compacted", len(d.Snap()), len(d.Log()))
	}
	d = disk.New(17) // less than a snapshot takes
	c = control.New(0, d, machines(t))
	c.Boot(0)
	c.Step(0)
	leads(t, c, 1, 40)
	sends(t, c.Hear(beat(0, 0), 1))
	leads(t, c, 1, 40)
	if len(d.Log()) != 11 {
		t.Error(len(d.Log()))
	}
}

func TestHearReport(t *testing.T) {
	c, d := running(t, job(2, 20, 0))
	sends(t, c.Hear(report(1, 1, 0, api.HowDone), 3), ack(1, 1, 1, 0))
	logs(t, d, 5, api.Event{Kind: api.EvOver, Job: 1, Attempt: 1, Node: 0, How: api.HowDone})
	sends(t, c.Hear(report(1, 1, 0, api.HowDone), 3), ack(1, 1, 1, 0))   // ErrState
	sends(t, c.Hear(report(1, 2, 1, api.HowDone), 3), ack(1, 1, 2, 1))   // ErrState
	sends(t, c.Hear(report(9, 1, 15, api.HowGone), 3), ack(1, 9, 1, 15)) // ErrJob
	logs(t, d, 6)
	d.Swap(d.Claim(), api.Claim{Epoch: 2, Until: 99})
	sends(t, c.Hear(report(1, 1, 1, api.HowDone), 3))
	leads(t, c, 0, 0)
}

func TestReportWithoutRoom(t *testing.T) {
	c, d := leader(t, 200)
	c.Hear(beat(0, 0), 1)
	c.Hear(beat(1, 0), 1)
	four := job(1, 20, 0) // their snapshot takes more than the disk has
	four.Array = 4
	sends(t, c.Hear(ask(1, submit(1, four)), 1), reply(1, 1, api.OK, 1, 4))
	for now := 2; now < 20; now++ {
		c.Step(now)
	}
	if len(d.Log()) < 189 {
		t.Fatal("not full", len(d.Log()))
	}
	sends(t, c.Hear(report(1, 1, 0, api.HowDone), 20))
	sends(t, c.Hear(ask(1, api.Event{Kind: api.EvCancel, Client: 1, Seq: 2, Job: 1}), 20), reply(1, 2, api.ErrRoom, 0, 0))
	leads(t, c, 1, 40)
	if j := jobs(t, d)[0]; j.Life.State != api.Running || len(d.Snap()) != 0 {
		t.Error(j)
	}
}

func TestHearAsk(t *testing.T) {
	c, d := leader(t, 9999)
	first := submit(1, job(1, 5, 0))
	sends(t, c.Hear(ask(0, first), 1), reply(1, 1, api.ErrEpoch, 0, 0))
	logs(t, d, 1)
	sends(t, c.Hear(ask(1, first), 1), reply(1, 1, api.OK, 1, 1))
	logs(t, d, 1, first)
	sends(t, c.Hear(ask(1, first), 2), reply(1, 1, api.OK, 1, 1)) // late or doubled: done once
	logs(t, d, 2)
	never := submit(2, job(3, 5, 0))
	sends(t, c.Hear(ask(1, never), 2), reply(1, 2, api.ErrNever, 0, 0))
	sends(t, c.Hear(ask(1, submit(2, job(1, 5, 0))), 2), reply(1, 2, api.ErrNever, 0, 0)) // this Seq was refused
	sends(t, c.Hear(ask(1, first), 2))
	for i, body := range [][]byte{nil, {1}, append(event.Put(nil, submit(5, job(1, 5, 0))), 0), event.Put(nil, api.Event{Kind: api.EvPass, Tick: 9}), event.Put(nil, submit(99, job(1, 5, 0))),
		event.Put(nil, api.Event{Kind: api.EvDrain, Client: 2, Seq: 8})} {
		m := api.Message{Kind: api.MsgAsk, Epoch: 1, Client: 1, Seq: 3 + i, Body: body}
		sends(t, c.Hear(m, 3), reply(1, 3+i, api.ErrEvent, 0, 0))
	}
	logs(t, d, 2)
	sends(t, c.Hear(ask(1, api.Event{Kind: api.EvDrain, Client: 1, Seq: 20}), 3), reply(1, 20, api.OK, 0, 0))
	logs(t, d, 2, api.Event{Kind: api.EvDrain, Client: 1, Seq: 20})
	for _, m := range []api.Message{granted(1, 0, 3), launch(1, 1, 1, 0, 2, 5), kill(1, 1, 1, 0), ack(1, 1, 1, 0), reply(1, 21, api.OK, 0, 0), {}} {
		sends(t, c.Hear(m, 3))
	}
	logs(t, d, 3)
}

func TestAskedAgainBehindATakeOver(t *testing.T) {
	c, d := leader(t, 9999)
	c.Hear(ask(1, submit(1, job(1, 5, 0))), 1)
	b := control.New(1, d, machines(t))
	b.Boot(0)
	b.Step(42)
	sends(t, b.Hear(ask(1, submit(1, job(1, 5, 0))), 42), reply(2, 1, api.ErrEpoch, 0, 0))
	sends(t, b.Hear(ask(2, submit(1, job(1, 5, 0))), 42), reply(2, 1, api.OK, 1, 1))
	if l := jobs(t, d); len(l) != 1 {
		t.Error(l)
	}
}

func TestAskWithoutRoom(t *testing.T) {
	c, d := leader(t, 100)
	big := job(1, 5, 0)
	big.User = "abcdefghijklmnop"
	sends(t, c.Hear(ask(1, submit(1, big, big)), 1), reply(1, 1, api.ErrRoom, 0, 0))
	sends(t, c.Hear(ask(1, submit(1, big, big)), 1), reply(1, 1, api.ErrRoom, 0, 0))
	leads(t, c, 1, 40)
	if len(jobs(t, d)) != 0 {
		t.Error("a refused request took effect")
	}
}

func TestCutsAreCrashes(t *testing.T) {
	for cut := range 12 {
		c, d := running(t, job(2, 20, 0))
		d.Cut(cut)
		sends(t, c.Hear(report(1, 1, 0, api.HowDone), 3))
		leads(t, c, 0, 0)
		if c.Up() {
			t.Error("it is up still")
		}
		whole, _ := journal.Record(1, api.Event{Kind: api.EvOver, Job: 1, Attempt: 1, Node: 0, How: api.HowDone})
		want := 0
		if cut >= len(whole) {
			want = api.HowDone
		}
		c.Boot(4)
		c.Step(4)
		leads(t, c, 2, 44)
		if j := jobs(t, d)[0]; j.Parts[0].How != want {
			t.Error(cut, j)
		}
	}
}

func TestCompactionIsCut(t *testing.T) {
	c, d := leader(t, 120)
	sends(t, c.Hear(ask(1, submit(1, job(1, 5, 0))), 1), reply(1, 1, api.OK, 1, 1))
	for now := 1; len(d.Log()) < 115; now++ {
		c.Step(now)
	}
	d.Cut(3)
	now := 30
	for ; c.Up() && now < 99; now++ {
		c.Step(now)
	}
	if c.Up() {
		t.Fatal("never compacted")
	}
	if len(jobs(t, d)) != 1 {
		t.Error("lost")
	}
}

// P21.4

func TestNil(t *testing.T) {
	var c *control.Control
	c.Crash()
	if c.Boot(0) != api.ErrArg || c.Up() || c.Claim() != (api.Claim{}) || c.Table() != nil || c.Hear(beat(0, 0), 1) != nil || c.Step(1) != nil {
		t.Error("nil controller")
	}
	c = new(control.Control)
	c.Boot(0)
	c.Step(1)
	c.Hear(beat(0, 0), 1)
	leads(t, c, 0, 0)
}

// P21.5

func TestOneLeads(t *testing.T) {
	for seed := range int64(15) {
		rnd := rand.New(rand.NewSource(seed))
		d, f := disk.New(700), machines(t)
		cs := []*control.Control{control.New(0, d, f), control.New(1, d, f)}
		seq, sure := 0, 0
		for now := 0; now < 700; now += rnd.Intn(3) {
			c := cs[rnd.Intn(2)]
			switch rnd.Intn(10) {
			case 0:
				if rnd.Intn(4) == 0 {
					c.Crash()
				} else if rnd.Intn(4) == 0 {
					d.Cut(rnd.Intn(60))
				}
			case 1:
				c.Boot(now)
			case 2, 3:
				c.Hear(beat(rnd.Intn(2), rnd.Intn(now+1)), now)
			case 4:
				c.Hear(report(1+rnd.Intn(4), 1+rnd.Intn(2), rnd.Intn(2), 1+rnd.Intn(3)), now)
			case 5:
				seq++
				e := submit(seq, job(1+rnd.Intn(2), 1+rnd.Intn(9), rnd.Intn(2)))
				for _, m := range c.Hear(ask(c.Claim().Epoch, e), now) {
					if m.Reply.E == api.OK {
						sure = m.Reply.Last
					}
				}
			default:
				c.Step(now)
			}
			if lease.Leads(cs[0].Claim(), now) && lease.Leads(cs[1].Claim(), now) {
				t.Fatal("two lead", now)
			}
			tab, _, _, e := journal.Replay(f, d.Snap(), d.Log())
			if e != api.OK || len(tab.Jobs()) < sure {
				t.Fatal("lost", e, sure)
			}
			if c.Claim().Epoch == d.Claim().Epoch && c.Claim().Epoch > 0 && !bytes.Equal(c.Table(), tab.Put()) {
				t.Fatal("the leader's table is not that of the log")
			}
		}
	}
}

func TestSnapshotIsATable(t *testing.T) {
	c, d := leader(t, 40)
	for now := range 30 {
		c.Hear(beat(now%2, now), now+1)
	}
	body, rest, e := frame.Next(d.Snap())
	if len(d.Snap()) > 0 {
		if _, te := table.Take(machines(t), body); e != api.OK || len(rest) != 0 || te != api.OK {
			t.Error(e, te)
		}
	}
}
