package agent_test

import (
	"math"
	"math/rand"
	"reflect"
	"slices"
	"testing"

	"corvee/agent"
	"corvee/api"
	"corvee/vec"
)

var whole = api.Vec{2}

func grant(epoch, sent, until int) api.Message {
	return api.Message{Kind: api.MsgGrant, Epoch: epoch, Sent: sent, Until: until}
}

func launch(epoch, job, attempt, start, wall, amount int) api.Message {
	return api.Message{Kind: api.MsgLaunch, Epoch: epoch, Job: job, Attempt: attempt, Start: start, Wall: wall, Demand: api.Vec{amount}}
}

func kill(epoch, job, attempt int) api.Message {
	return api.Message{Kind: api.MsgKill, Epoch: epoch, Job: job, Attempt: attempt}
}

func ack(epoch, job, attempt int) api.Message {
	return api.Message{Kind: api.MsgAck, Epoch: epoch, Job: job, Attempt: attempt}
}

func beat(boot int) api.Message {
	return api.Message{Kind: api.MsgBeat, Boot: boot}
}

func report(job, attempt, how int) api.Message {
	return api.Message{Kind: api.MsgReport, Job: job, Attempt: attempt, How: how}
}

// up is an agent of node 0, booted at 1, with a lease since 2 until 26.
func up(t *testing.T, work ...int) *agent.Agent {
	t.Helper()
	a := agent.New(0, whole, work)
	if e := a.Boot(1); e != api.OK {
		t.Fatal(e)
	}
	a.Hear(grant(1, 2, 26), 3)
	return a
}

// says asks what an agent sends at a tick beside its heartbeats.
func says(t *testing.T, a *agent.Agent, now int, want ...api.Message) {
	t.Helper()
	got := slices.DeleteFunc(a.Step(now), func(m api.Message) bool { return m.Kind == api.MsgBeat })
	if !reflect.DeepEqual(append([]api.Message{}, got...), append([]api.Message{}, want...)) {
		t.Errorf("at %d: %v", now, got)
	}
}

func runs(t *testing.T, a *agent.Agent, now int, want ...api.Run) {
	t.Helper()
	if got := a.Running(now); !slices.Equal(got, want) {
		t.Errorf("at %d: %v", now, got)
	}
}

func run(job, attempt, amount, begun, end int) api.Run {
	return api.Run{Job: job, Attempt: attempt, Demand: api.Vec{amount}, Begun: begun, End: end}
}

// P20.1

func TestNew(t *testing.T) {
	for _, a := range []*agent.Agent{agent.New(-1, whole, nil), agent.New(16, whole, nil), agent.New(0, api.Vec{-1}, nil), agent.New(0, api.Vec{api.MaxRes + 1}, nil)} {
		if a != nil {
			t.Error("New of what may not be")
		}
	}
	if a := agent.New(15, whole, nil); a == nil || a.Up() {
		t.Error("New")
	}
}

func TestBootAndCrash(t *testing.T) {
	a := agent.New(0, whole, []int{9})
	for _, now := range []int{-1, api.MaxTick, math.MaxInt, math.MinInt} {
		if e := a.Boot(now); e != api.ErrArg || a.Up() {
			t.Error(now, e)
		}
	}
	a.Crash()
	if e := a.Boot(5); e != api.OK || !a.Up() {
		t.Error(e)
	}
	if e := a.Boot(5); e != api.ErrState {
		t.Error(e)
	}
	if e := a.Boot(4); e != api.ErrArg {
		t.Error(e)
	}
	a.Hear(grant(7, 5, 99), 5)
	a.Hear(launch(7, 1, 1, 6, 50, 1), 6)
	runs(t, a, 6, run(1, 1, 1, 6, 15))
	a.Crash()
	if since, end := a.Lease(); a.Up() || since != 0 || end != 0 || a.Running(6) != nil || a.Step(6) != nil {
		t.Error("a crashed agent")
	}
	if e := a.Boot(5); e != api.ErrArg {
		t.Error("ticks go back", e)
	}
	if e := a.Boot(8); e != api.OK {
		t.Error(e)
	}
	if got := a.Step(8); !reflect.DeepEqual(got, []api.Message{beat(8)}) {
		t.Error(got)
	}
	runs(t, a, 8)
	a.Hear(grant(1, 8, 20), 9) // the epoch is forgotten as well
	if since, end := a.Lease(); since != 8 || end != 20 {
		t.Error(since, end)
	}
}

func TestTicksOfAllCalls(t *testing.T) {
	a := up(t, 9)
	a.Hear(api.Message{}, 10)
	if a.Step(9) != nil {
		t.Error("a tick that is past")
	}
	a.Hear(grant(1, 9, 99), 9)
	a.Hear(grant(1, 9, 99), api.MaxTick)
	if _, end := a.Lease(); end != 26 {
		t.Error(end)
	}
	if got := a.Step(10); len(got) != 1 {
		t.Error(got)
	}
	if a.Step(api.MaxTick) != nil || a.Step(-1) != nil || len(a.Step(api.MaxTick-1)) != 1 {
		t.Error("ticks that are none")
	}
}

// P20.2

func TestWhoIsHeard(t *testing.T) {
	a := up(t, 9)
	lease := func(want int) {
		t.Helper()
		if _, end := a.Lease(); end != want {
			t.Error(end, want)
		}
	}
	other := grant(1, 4, 40)
	other.Node = 1
	a.Hear(other, 4)
	wrong := grant(1, 4, 40)
	wrong.Job = 1
	a.Hear(wrong, 4)
	a.Hear(grant(0, 4, 40), 4)
	a.Hear(api.Message{Kind: api.MsgReply, Epoch: 9, Client: 1, Seq: 1}, 4)
	a.Hear(report(1, 1, 1), 4)
	lease(26)
	a.Hear(ack(3, 9, 1), 4) // the epoch becomes 3
	a.Hear(grant(2, 4, 40), 4)
	lease(26)
	a.Hear(grant(3, 4, 27), 4)
	lease(27)
	other = grant(9, 4, 99)
	other.Node = 1
	a.Hear(other, 4)
	a.Hear(grant(3, 4, 28), 4)
	lease(28)
}

func TestGrant(t *testing.T) {
	a := agent.New(0, whole, []int{9})
	a.Boot(1)
	for _, c := range []struct{ sent, until, now, since, end int }{
		{2, 3, 3, 0, 0}, {2, 10, 3, 2, 10}, {4, 10, 5, 2, 10}, {4, 9, 5, 2, 10}, {5, 12, 5, 2, 12}, {11, 20, 11, 2, 20},
		{15, 20, 20, 2, 20}, {15, 19, 21, 2, 20}, {16, 22, 22, 2, 20}, {15, 23, 22, 15, 23}, {99, 140, 30, 99, 140}, {40, 150, 139, 99, 150},
	} {
		a.Hear(grant(1, c.sent, c.until), c.now)
		if since, end := a.Lease(); since != c.since || end != c.end {
			t.Error(c, since, end)
		}
	}
}

func TestLaunch(t *testing.T) {
	a := up(t, 5)
	a.Hear(launch(1, 1, 1, 4, 9, 1), 6)
	runs(t, a, 6, run(1, 1, 1, 6, 11))
	says(t, a, 11, report(1, 1, api.HowDone))
	runs(t, a, 11)
	a = up(t, 50, 50, 50, 50, 50, 50, 50, 50)
	a.Hear(launch(1, 1, 1, 3, 9, 1), 6)
	a.Hear(launch(1, 2, 1, 3, 9, 2), 6)  // does not fit
	a.Hear(launch(1, 3, 1, 2, 9, 1), 6)  // not behind the beginning of the lease
	a.Hear(launch(1, 4, 1, 3, 9, 1), 11) // 3 + 8: just in time
	a.Hear(launch(1, 5, 1, 4, 9, 0), 12)
	a.Hear(launch(1, 6, 1, 3, 9, 0), 12) // too late
	a.Hear(launch(1, 1, 1, 12, 9, 0), 12)
	a.Hear(launch(1, 2, 1, 12, 9, 0), 12) // known: it was refused for good
	a.Hear(launch(1, 1, 2, 12, 9, 0), 12)
	runs(t, a, 12, run(1, 1, 1, 6, 15), run(4, 1, 1, 11, 20), run(5, 1, 0, 12, 21), run(1, 2, 0, 12, 21))
	says(t, a, 12, report(2, 1, api.HowGone), report(3, 1, api.HowGone), report(6, 1, api.HowGone))
	a.Hear(launch(1, 7, 1, 26, 9, 0), 26) // the lease has just ended, and with it all that ran
	runs(t, a, 12)
}

func TestLaunchNeedsBootAndLease(t *testing.T) {
	a := agent.New(0, whole, []int{50})
	a.Boot(10)
	a.Hear(launch(1, 1, 1, 11, 9, 1), 11) // no lease
	a.Hear(grant(1, 5, 40), 12)
	a.Hear(launch(1, 2, 1, 10, 9, 1), 12) // not behind the boot
	a.Hear(launch(1, 3, 1, 11, 9, 1), 12)
	a.Hear(launch(1, 4, 1, 30, 9, 1), 12) // Start ahead of now is no fault
	runs(t, a, 12, run(3, 1, 1, 12, 21), run(4, 1, 1, 12, 21))
	says(t, a, 12, report(1, 1, api.HowGone), report(2, 1, api.HowGone))
	a.Hear(launch(1, 5, 1, 35, 9, 1), 40) // the lease has just ended
	says(t, a, 40, report(1, 1, api.HowGone), report(2, 1, api.HowGone), report(3, 1, api.HowWall), report(4, 1, api.HowWall), report(5, 1, api.HowGone))
}

func TestSpaceIsFreeBehindAnEnd(t *testing.T) {
	a := up(t, 4)
	a.Hear(launch(1, 1, 1, 4, 9, 2), 6)
	a.Hear(launch(1, 2, 1, 4, 9, 2), 9)
	a.Hear(launch(1, 3, 1, 4, 9, 2), 10)
	runs(t, a, 10, run(3, 1, 2, 10, 14))
	says(t, a, 10, report(1, 1, api.HowDone), report(2, 1, api.HowGone))
}

func TestHowPartsEnd(t *testing.T) {
	for _, c := range []struct{ work, wall, until, how, end int }{
		{5, 9, 26, api.HowDone, 11}, {5, 5, 26, api.HowDone, 11}, {5, 5, 11, api.HowDone, 11}, {6, 5, 26, api.HowWall, 11}, {6, 5, 11, api.HowWall, 11}, {6, 6, 11, api.HowGone, 11},
		{0, 9, 26, api.HowDone, 7}, {-5, 9, 26, api.HowDone, 7}, {math.MinInt, 1, 26, api.HowDone, 7}, {5000, 1000, 9999, api.HowWall, 1006},
	} {
		a := agent.New(0, whole, []int{c.work})
		a.Boot(1)
		a.Hear(grant(1, 2, c.until), 3)
		a.Hear(launch(1, 1, 1, 4, c.wall, 1), 6)
		runs(t, a, c.end-1, run(1, 1, 1, 6, c.end))
		runs(t, a, c.end)
		runs(t, a, 5)
		says(t, a, c.end-1)
		says(t, a, c.end, report(1, 1, c.how))
	}
}

func TestDurations(t *testing.T) {
	end := func(job, want int, work ...int) {
		t.Helper()
		a := agent.New(0, whole, work)
		a.Boot(1)
		a.Hear(grant(1, 2, 1<<40), 3)
		a.Hear(launch(1, job, 1, 4, 1000, 1), 6)
		runs(t, a, 6, run(job, 1, 1, 6, 6+want))
	}
	end(1, 1)
	end(100, 1)
	end(1, 3, 3, 7)
	end(2, 7, 3, 7)
	end(3, 3, 3, 7)
	end(100, 7, 3, 7)
	end(1, 3, 3, 7, 9)
	end(2, 7, 3, 7, 9)
	end(3, 9, 3, 7, 9)
	end(6, 9, 3, 7, 9)
	end(100, 3, 3, 7, 9)
	end(1, 1000, 1<<40)
	work := []int{3}
	a := agent.New(0, whole, work)
	work[0] = 9
	a.Boot(1)
	a.Hear(grant(1, 2, 99), 3)
	a.Hear(launch(1, 1, 1, 4, 20, 1), 6)
	runs(t, a, 6, run(1, 1, 1, 6, 9))
}

func TestLongestWork(t *testing.T) {
	a := agent.New(0, whole, []int{5000})
	a.Boot(1)
	a.Hear(grant(1, 2, 99), 3)
	a.Hear(launch(1, 1, 1, 4, 1000, 1), 6)
	says(t, a, 99, report(1, 1, api.HowGone))
}

func TestLeaseCarriesParts(t *testing.T) {
	a := up(t, 40)
	a.Hear(launch(1, 1, 1, 4, 100, 1), 6)
	runs(t, a, 6, run(1, 1, 1, 6, 26))
	a.Hear(grant(1, 10, 34), 10)
	runs(t, a, 10, run(1, 1, 1, 6, 34))
	a.Hear(grant(1, 33, 57), 34) // the lease had ended: so has the part
	runs(t, a, 34)
	says(t, a, 34, report(1, 1, api.HowGone))
	if since, end := a.Lease(); since != 33 || end != 57 {
		t.Error(since, end)
	}
	a.Hear(launch(1, 2, 1, 33, 9, 1), 35)
	runs(t, a, 35)
}

func TestKill(t *testing.T) {
	a := up(t, 20)
	a.Hear(launch(1, 1, 1, 4, 50, 1), 6)
	a.Hear(launch(1, 2, 1, 4, 3, 1), 6)
	a.Hear(kill(1, 1, 1), 7)
	a.Hear(kill(1, 9, 2), 7)
	runs(t, a, 7, run(2, 1, 1, 6, 9))
	a.Hear(launch(1, 9, 2, 7, 5, 0), 7) // it will never run here
	says(t, a, 7, report(1, 1, api.HowGone), report(9, 2, api.HowGone))
	a.Hear(kill(1, 1, 1), 8) // it already has to be reported: nothing changes
	says(t, a, 8)
	a.Hear(kill(1, 2, 1), 9) // it ended by itself at this very tick
	says(t, a, 9, report(2, 1, api.HowWall))
	a.Hear(ack(1, 2, 1), 10)
	a.Hear(ack(1, 1, 1), 10)
	says(t, a, 11, report(9, 2, api.HowGone))
	a.Hear(kill(1, 2, 1), 11) // once more, with the How that it had
	says(t, a, 11, report(2, 1, api.HowWall))
	says(t, a, 12)
}

func TestAck(t *testing.T) {
	a := up(t, 9)
	a.Hear(ack(1, 1, 1), 4)
	a.Hear(launch(1, 1, 1, 4, 3, 1), 6)
	a.Hear(ack(1, 1, 1), 7) // it still runs
	says(t, a, 9, report(1, 1, api.HowWall))
	a.Hear(ack(1, 1, 2), 10)
	says(t, a, 13, report(1, 1, api.HowWall))
	a.Hear(ack(1, 1, 1), 14)
	says(t, a, 99)
	for how, work := range []int{50, 2, 50, 50} {
		a = up(t, work)
		a.Hear(launch(1, 1, 1, 4, 3, 1), 6)
		if how == api.HowGone {
			a.Hear(kill(1, 1, 1), 7)
		}
		if how > 0 {
			a.Hear(ack(1, 1, 1), 10)
			says(t, a, 10)
		}
	}
}

func TestHearSettlesFirst(t *testing.T) {
	a := up(t, 4)
	a.Hear(launch(1, 1, 1, 4, 9, 1), 6)
	a.Hear(kill(1, 1, 1), 10)
	says(t, a, 10, report(1, 1, api.HowDone))
	a = up(t, 4)
	a.Hear(launch(1, 1, 1, 4, 9, 1), 6)
	a.Hear(api.Message{}, 10)
	runs(t, a, 9)
}

// P20.3

func TestStep(t *testing.T) {
	a := agent.New(3, whole, []int{2})
	if a.Step(0) != nil {
		t.Error("not up")
	}
	a.Boot(4)
	for now, want := range map[int]int{4: 1} {
		if got := a.Step(now); len(got) != want || got[0].Node != 3 || got[0].Boot != 4 {
			t.Error(now, got)
		}
	}
	for now, want := range []int{0, 0, 0, 1, 0, 0, 1} {
		if got := a.Step(4 + now); len(got) != want {
			t.Error(4+now, got)
		}
	}
	if got := a.Step(14); len(got) != 1 {
		t.Error(got)
	}
	if got := a.Step(16); len(got) != 0 {
		t.Error(got)
	}
}

func TestReportsAreSentAgain(t *testing.T) {
	a := up(t, 4, 3)
	a.Hear(launch(1, 1, 1, 4, 9, 1), 6)
	a.Hear(launch(1, 2, 1, 4, 9, 1), 6)
	if got := a.Step(9); !reflect.DeepEqual(got, []api.Message{beat(1), report(2, 1, api.HowDone)}) {
		t.Error(got)
	}
	if got := a.Step(12); !reflect.DeepEqual(got, []api.Message{beat(1), report(1, 1, api.HowDone)}) {
		t.Error(got)
	}
	says(t, a, 13, report(2, 1, api.HowDone))
	says(t, a, 15)
	says(t, a, 17, report(1, 1, api.HowDone), report(2, 1, api.HowDone))
}

// P20.4

func TestRunningDoesNotSettle(t *testing.T) {
	a := up(t, 4)
	a.Hear(launch(1, 1, 1, 4, 9, 1), 6)
	for now, want := range map[int]int{math.MinInt: 0, 5: 0, 6: 1, 9: 1, 10: 0, math.MaxInt: 0} {
		if got := a.Running(now); len(got) != want {
			t.Error(now, got)
		}
	}
	a.Running(7)[0].Job = 9
	runs(t, a, 7, run(1, 1, 1, 6, 10))
}

// P20.5

func TestNil(t *testing.T) {
	for _, a := range []*agent.Agent{nil, new(agent.Agent)} {
		a.Crash()
		a.Hear(kill(1, 1, 1), 1)
		since, end := a.Lease()
		if a.Up() || a.Step(1) != nil || since != 0 || end != 0 || a.Running(1) != nil {
			t.Error("nil agent")
		}
		if e := a.Boot(0); e != api.ErrArg {
			t.Error(e)
		}
	}
}

// P20.6

func TestConsequences(t *testing.T) {
	for seed := range int64(100) {
		rnd := rand.New(rand.NewSource(seed))
		cap := api.Vec{3}
		a := agent.New(0, cap, []int{3, 20, 7})
		type launched struct{ start, wall int }
		known, boot, now := map[[2]int]launched{}, -1, 0
		began := map[[2]int]int{}
		for range 500 {
			now += rnd.Intn(2)
			switch rnd.Intn(12) {
			case 0:
				if rnd.Intn(3) == 0 {
					a.Crash()
				}
			case 1:
				if a.Boot(now) == api.OK {
					boot = now
				}
			case 2, 3:
				a.Hear(grant(1, now-rnd.Intn(now+1)/8, now+rnd.Intn(20)), now)
			case 4, 5, 6, 7:
				m := launch(1, 1+rnd.Intn(9), 1+rnd.Intn(6), max(now+rnd.Intn(5)-9, 0), 1+rnd.Intn(12), rnd.Intn(3))
				key := [2]int{m.Job, m.Attempt}
				if l, ok := known[key]; ok {
					m.Start, m.Wall = l.start, l.wall // a launch is the same, however often it is sent
				}
				known[key] = launched{m.Start, m.Wall}
				a.Hear(m, now)
			case 8:
				a.Hear(kill(1, 1+rnd.Intn(9), 1+rnd.Intn(6)), now)
			case 9:
				a.Hear(ack(1, 1+rnd.Intn(9), 1+rnd.Intn(6)), now)
			case 10:
				a.Step(now)
			}
			var sum api.Vec
			since, end := a.Lease()
			for _, r := range a.Running(now) {
				key := [2]int{r.Job, r.Attempt}
				l := known[key]
				sum[0] += r.Demand[0]
				if now >= end || now >= r.Begun+l.wall || now >= l.start+api.Grace+l.wall || l.start <= boot || l.start <= since {
					t.Fatal("runs", r, l, since, end, now)
				}
				if at, ok := began[key]; ok && at != r.Begun {
					t.Fatal("runs twice", r)
				}
				began[key] = r.Begun
			}
			if !vec.Fits(sum, cap) {
				t.Fatal("too much runs", sum)
			}
		}
	}
}
