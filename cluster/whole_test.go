package cluster

// The promises Q1 to Q7 of the whole, and with them P22.5, over scripts that are drawn by lot.

import (
	"bytes"
	"math/rand"
	"slices"
	"testing"

	"corvee/api"
	"corvee/event"
	"corvee/fleet"
	"corvee/journal"
	"corvee/lease"
	"corvee/life"
	"corvee/table"
	"corvee/vec"
)

const threeNodes = "n1 2,2,0,0 main a\nn2 3,1,0,0 main b\nn3 2,2,0,0 main a b\n"

// drawn is a cluster, and the acts that are drawn for it.
type drawn struct {
	*rand.Rand
	*Cluster
	t      *testing.T
	f      *fleet.Fleet
	asked  [clients]int
	bodies map[[2]int][]byte
	spoilt bool
	holds  bool // whether jobs may be held, and nodes drained
	cuts   bool
	disk   []byte       // what it was when it was looked at last
	tab    *table.Table // and what it told
}

func draw(t *testing.T, seed int64, room int) *drawn {
	t.Helper()
	c, e := New(threeNodes, room, []int{3, 9, 1, 30, 6})
	f, _, _ := fleet.Read(threeNodes)
	if e != api.OK {
		t.Fatal(e)
	}
	return &drawn{Rand: rand.New(rand.NewSource(seed)), Cluster: c, t: t, f: f, bodies: map[[2]int][]byte{}, holds: true, cuts: true}
}

// request is the body of a client's next request, most of them events.
func (d *drawn) request(client int) []byte {
	e := api.Event{Client: client, Seq: d.asked[client-1] + 1, Job: 1 + d.Intn(15)}
	kinds := []int{api.EvSubmit, api.EvSubmit, api.EvSubmit, api.EvCancel}
	if d.holds {
		kinds = append(kinds, api.EvHold, api.EvRelease, api.EvRelease, api.EvDrain, api.EvFill, api.EvFill)
	}
	switch e.Kind = kinds[d.Intn(len(kinds))]; e.Kind {
	case api.EvSubmit:
		e.Job = 0
		for range 1 + d.Intn(2) {
			s := api.Spec{User: string(rune('a' + d.Intn(3))), Part: []string{"main", "main", "main", "a", "b", "none"}[d.Intn(6)], Nodes: 1 + d.Intn(2), Demand: api.Vec{1 + d.Intn(2), d.Intn(2)},
				Wall: 1 + d.Intn(12), Prio: d.Intn(3), Array: 1 + d.Intn(2), Retries: d.Intn(3), Held: d.holds && d.Intn(8) == 0}
			if d.Intn(6) == 0 {
				s.After = []int{d.Intn(10) - 2}
			}
			e.Specs = append(e.Specs, s)
		}
	case api.EvDrain, api.EvFill:
		e.Job, e.Node = 0, d.Intn(4)
	}
	b := event.Put(nil, e)
	if d.Intn(30) == 0 {
		b = append(b, byte(d.Intn(256)))
	}
	if d.Intn(30) == 0 && len(b) > 0 {
		b[d.Intn(len(b))] ^= 1 << d.Intn(8)
	}
	return b
}

// act draws an act.
func (d *drawn) act() Act {
	packet := d.Intn(d.Packets() + 1)
	switch n := d.Intn(100); {
	case n < 8:
		return Act{Kind: Tick, A: d.Intn(3)}
	case n < 9 && d.Intn(3) == 0:
		return Act{Kind: Tick, A: d.Intn(60)}
	case n < 11 && d.Intn(2) == 0:
		return Act{Kind: []int{CrashControl, CrashNode}[d.Intn(2)], A: d.Intn(3)}
	case n < 14:
		return Act{Kind: []int{BootControl, BootNode}[d.Intn(2)], A: d.Intn(3)}
	case n < 22:
		return Act{Kind: StepControl, A: d.Intn(2)}
	case n < 27:
		return Act{Kind: StepNode, A: d.Intn(3)}
	case n < 32:
		return Act{Kind: StepClient, A: 1 + d.Intn(4)}
	case n < 62:
		return Act{Kind: Deliver, A: packet}
	case n < 63:
		return Act{Kind: Drop, A: packet}
	case n < 66:
		return Act{Kind: Double, A: packet}
	case n < 67 && !d.spoilt:
		d.spoilt = true
		return Act{Kind: Spoil, A: packet, B: d.Intn(400)}
	case n < 68 && d.cuts && d.Intn(2) == 0:
		return Act{Kind: Cut, A: d.Intn(90) - 1}
	case n < 76:
		client := 1 + d.Intn(4)
		return Act{Kind: Ask, A: client, Body: d.request(client)}
	case n < 88:
		return Act{Kind: Calm, A: 1 + d.Intn(3)}
	}
	return Act{Kind: Tick, A: 0}
}

// do does an act, and checks what holds at each tick.
func (d *drawn) do(a Act) {
	d.t.Helper()
	if a.Kind == Calm { // round by round, so that each tick is looked at
		for range a.A {
			d.Do(Act{Kind: Calm, A: 1})
			d.look()
		}
		return
	}
	if e := d.Do(a); a.Kind == Ask && e == api.OK {
		d.asked[a.A-1]++
		d.bodies[[2]int{a.A, d.asked[a.A-1]}] = a.Body
	}
	d.look()
}

// look checks Q2 and Q4 at this tick, and that the log can be read.
func (d *drawn) look() {
	t := d.t
	t.Helper()
	if lease.Leads(d.controls[0].Claim(), d.now) && lease.Leads(d.controls[1].Claim(), d.now) {
		t.Fatal("two lead at", d.now)
	}
	snap, log := d.Disk()
	if disk := append(snap, log...); d.tab == nil || !bytes.Equal(disk, d.disk) {
		tab, _, _, e := journal.Replay(d.f, snap, log)
		if e != api.OK {
			t.Fatal("the log can't be read", e)
		}
		d.tab, d.disk = tab, disk
	}
	attempts := map[int]int{}
	for i := range d.agents {
		machine, _ := d.f.Node(i)
		var sum api.Vec
		for _, r := range d.Running(i) {
			for k := range sum {
				sum[k] += r.Demand[k]
			}
			j, ok := d.tab.Job(r.Job)
			if !ok || !life.Live(j.Life.State) || j.Life.Attempt != r.Attempt || !slices.Contains(j.Parts, api.Part{Node: i}) || !slices.Contains(d.f.In(j.Spec.Part), i) {
				t.Fatalf("at %d on %d runs %v of %+v", d.now, i, r, j)
			}
			if n, ok := attempts[r.Job]; ok && n != r.Attempt {
				t.Fatal("two attempts run", r)
			}
			attempts[r.Job] = r.Attempt
		}
		if !vec.Fits(sum, machine.Cap) {
			t.Fatal("too much runs", i, sum)
		}
	}
}

// trace checks Q1, of a log that was never compacted.
func (d *drawn) trace() {
	t := d.t
	t.Helper()
	_, log := d.Disk()
	tab, told := table.New(d.f), map[[2]int]api.Reply{}
	for _, e := range journal.Events(log) {
		r, err := tab.Apply(e)
		if err != api.OK {
			t.Fatal("not a run of the table", e, err)
		}
		if event.Client(e.Kind) {
			key := [2]int{e.Client, e.Seq}
			if !bytes.Equal(event.Put(nil, e), d.bodies[key]) {
				t.Fatal("nobody asked for it", e)
			}
			told[key] = r
		}
	}
	for client := 1; client <= clients; client++ {
		last := 0
		for _, h := range d.Heard(client) {
			if h.Seq <= last {
				t.Fatal("heard twice", h)
			}
			last = h.Seq
			r, done := told[[2]int{client, h.Seq}]
			if done != (h.Reply.E == api.OK) || done && r != h.Reply {
				t.Fatal("heard", client, h, "but told", r, done)
			}
		}
	}
}

func TestChaos(t *testing.T) {
	for seed := range int64(20) {
		d := draw(t, seed, api.MaxDisk)
		for range 600 {
			d.do(d.act())
		}
		d.trace()
		d.do(Act{Kind: Calm, A: 60})
		for range 300 {
			d.do(d.act())
		}
		d.trace()
	}
}

// TestChaosOnASmallDisk lets the disk be compacted all the time, and be full at last.
func TestChaosOnASmallDisk(t *testing.T) {
	for seed := range int64(12) {
		d := draw(t, seed, 300+50*int(seed))
		jobs := map[[2]int]int{}
		for i := range 700 {
			if d.do(d.act()); i%50 == 49 {
				d.do(Act{Kind: Calm, A: 4})
			}
			for client := 1; client <= clients; client++ {
				for _, h := range d.Heard(client) {
					if h.Reply.E == api.OK {
						jobs[[2]int{client, h.Seq}] = h.Reply.Last
					}
				}
			}
		}
		l := d.Jobs()
		for key, last := range jobs {
			if last > len(l) {
				t.Fatal("a job that a client was told of is lost", key, last)
			}
		}
		d.do(Act{Kind: Calm, A: 30})
	}
}

// TestSnapshotsMakeNoDifference is Q3: the same script on a disk that is compacted and on one that never is.
func TestSnapshotsMakeNoDifference(t *testing.T) {
	compacted := 0
	for seed := range int64(6) {
		a, b := draw(t, seed, api.MaxDisk), draw(t, seed, 2500)
		a.cuts, b.cuts = false, false
		for range 600 {
			act := a.act()
			if act.Kind == Tick && a.Intn(4) == 0 {
				act = Act{Kind: Calm, A: 3}
			}
			a.do(act)
			b.do(act)
		}
		for client := 1; client <= clients; client++ {
			if !slices.Equal(a.Heard(client), b.Heard(client)) {
				t.Fatal(seed, a.Heard(client), b.Heard(client))
			}
		}
		tables := [2][]byte{}
		for i, d := range []*drawn{a, b} {
			snap, log := d.Disk()
			tab, _, _, _ := journal.Replay(d.f, snap, log)
			tables[i] = tab.Put()
			compacted += len(snap)
		}
		if !bytes.Equal(tables[0], tables[1]) {
			t.Fatal("another table", seed)
		}
	}
	if compacted == 0 {
		t.Error("nothing was ever compacted")
	}
}

// TestAllJobsEnd is Q6.
func TestAllJobsEnd(t *testing.T) {
	for seed := range int64(12) {
		d := draw(t, seed, api.MaxDisk)
		d.holds = false
		for range 500 {
			d.do(d.act())
		}
		for range 20 {
			d.do(Act{Kind: Calm, A: 1}) // a cut that is armed still makes one controller crash: it boots again
		}
		d.do(Act{Kind: Calm, A: 70})
		ticks := 0
		for _, j := range d.Jobs() {
			if !life.Over(j.Life.State) {
				ticks += (j.Life.Left + 2) * (j.Spec.Wall + api.Grace + 4)
			}
		}
		for range ticks {
			d.do(Act{Kind: Calm, A: 1})
		}
		for _, j := range d.Jobs() {
			if !life.Over(j.Life.State) {
				t.Fatalf("seed %d: never ends: %+v", seed, j)
			}
		}
		d.trace()
		for client := range d.clients {
			if _, _, open := d.clients[client].State(); open {
				t.Fatal("no reply", client)
			}
		}
	}
}

// TestRejections is Q7.
func TestRejections(t *testing.T) {
	c, _ := New("n1 2,2,0,0 main\n", api.MaxDisk, []int{3})
	spec := func(f func(s *api.Spec)) []api.Spec {
		s := api.Spec{User: "ana", Part: "main", Nodes: 1, Demand: api.Vec{1}, Wall: 5, Array: 1}
		f(&s)
		return []api.Spec{s}
	}
	full := spec(func(s *api.Spec) { s.Array = 20; s.Held = true })
	fill := api.Event{Kind: api.EvSubmit, Specs: slices.Concat(full, full, full, full, full)}
	seq := 0
	ask := func(e api.Event, extra ...byte) api.Errno {
		t.Helper()
		seq++
		e.Client, e.Seq = 1, seq
		ahead := c.Jobs()
		if e := c.Do(Act{Kind: Ask, A: 1, Body: append(event.Put(nil, e), extra...)}); e != api.OK {
			t.Fatal(e)
		}
		c.Do(Act{Kind: Calm, A: 6})
		l := c.Heard(1)
		if len(l) != seq {
			t.Fatal("heard", len(l), "replies of", seq)
		}
		got := l[seq-1].Reply.E
		if got != api.OK && len(c.Jobs()) != len(ahead) {
			t.Error("changed something", e)
		}
		return got
	}
	for i, x := range []struct {
		e     api.Event
		extra []byte
		want  api.Errno
	}{
		{api.Event{}, nil, api.ErrEvent}, {api.Event{}, []byte("what is this"), api.ErrEvent}, {api.Event{Kind: api.EvPass, Tick: 99}, nil, api.ErrEvent},
		{api.Event{Kind: api.EvSubmit, Specs: spec(func(s *api.Spec) {})}, []byte{0}, api.ErrEvent},
		{api.Event{Kind: api.EvSubmit, Specs: spec(func(s *api.Spec) { s.Part = "none" })}, nil, api.ErrPart},
		{api.Event{Kind: api.EvSubmit, Specs: spec(func(s *api.Spec) { s.Demand[0] = 3 })}, nil, api.ErrNever},
		{api.Event{Kind: api.EvSubmit, Specs: spec(func(s *api.Spec) { s.Nodes = 2 })}, nil, api.ErrNever},
		{api.Event{Kind: api.EvSubmit, Specs: spec(func(s *api.Spec) { s.After = []int{-1} })}, nil, api.ErrCycle},
		{api.Event{Kind: api.EvSubmit, Specs: spec(func(s *api.Spec) { s.After = []int{1} })}, nil, api.ErrJob},
		{api.Event{Kind: api.EvCancel, Job: 1}, nil, api.ErrJob}, {api.Event{Kind: api.EvDrain, Node: 5}, nil, api.ErrNode}, {api.Event{Kind: api.EvFill}, nil, api.ErrState},
		{fill, nil, api.OK}, {api.Event{Kind: api.EvSubmit, Specs: spec(func(s *api.Spec) {})}, nil, api.ErrTable}, {api.Event{Kind: api.EvHold, Job: 1}, nil, api.ErrState}, {api.Event{Kind: api.EvRelease, Job: 1}, nil, api.OK},
	} {
		if got := ask(x.e, x.extra...); got != x.want {
			t.Error(i, got)
		}
	}
}
