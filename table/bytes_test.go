package table_test

import (
	"bytes"
	"math/rand"
	"reflect"
	"slices"
	"testing"

	"corvee/api"
	"corvee/code"
	"corvee/event"
	"corvee/life"
	"corvee/plan"
	"corvee/spec"
	"corvee/table"
	"corvee/vec"
)

// image is the fields of a table's encoding, to be put together by hand.
type image struct {
	head  []int
	nodes []int
	jobs  []row
	count int // the number of jobs; below 0: that of jobs
}

type row struct {
	text  string
	after []int
	life  []int // State, Attempt, Left, Wall, Stop, Start
	gang  []int
	hows  []int
}

func (m image) bytes() []byte {
	var b []byte
	for _, n := range append(slices.Clone(m.head), m.nodes...) {
		b = code.Int(b, n)
	}
	if m.count < 0 {
		m.count = len(m.jobs)
	}
	b = code.Int(b, m.count)
	for _, j := range m.jobs {
		b = code.Ints(code.Text(b, j.text), j.after)
		for _, n := range j.life {
			b = code.Int(b, n)
		}
		b = code.Ints(code.Ints(b, j.gang), j.hows)
	}
	return b
}

// some is an image with a job in each state.
func some() image {
	return image{
		head:  []int{3, 20, 2, 1, 9, 1, 3, 16, 1 << 40, 0, 100},
		nodes: []int{1, 0, 5, 0, 1, -1},
		count: -1,
		jobs: []row{
			{short, nil, []int{int(api.Done), 1, 0, 0, 0, 3}, []int{0}, nil},
			{short + " retries=1", []int{1}, []int{int(api.Running), 1, 1, 0, 0, 20}, []int{1}, []int{0}},
			{"user=ana part=main nodes=2 demand=1,0,0,0 wall=5", nil, []int{int(api.Ending), 1, 0, 1, 1, 19}, []int{0, 1}, []int{2, 0}},
			{short, []int{2, 3}, []int{int(api.Pending), 0, 0, 0, 0, -1}, nil, nil},
			{short, []int{7}, []int{int(api.Pending), 1, 0, 0, 0, 40}, []int{1}, nil},
			{short + " held=1", nil, []int{int(api.Held), 0, 0, 0, 0, -1}, nil, nil},
			{short, nil, []int{int(api.Cancelled), 0, 0, 0, 0, -1}, nil, nil},
			{short, nil, []int{int(api.Cancelled), 1, 5, 0, 0, 3}, []int{0}, nil},
			{short, nil, []int{int(api.Failed), 6, 0, 0, 0, api.MaxTick - 13}, []int{0}, nil},
			{short, nil, []int{int(api.TimedOut), 1, 0, 0, 0, 0}, []int{1}, nil},
		},
	}
}

const someFleet = "n1 2,2,0,0 main a\nn2 2,2,0,0 main b\n"

// P14.5

func TestPut(t *testing.T) {
	tab := table.New(machines(t, someFleet))
	if b := tab.Put(); !bytes.Equal(b, []byte{0, 1, 0, 0, 0, 1, 0, 0, 1, 0}) {
		t.Error(b)
	}
	for _, e := range []api.Event{
		{Kind: api.EvEpoch, Epoch: 4}, back(1, 2), {Kind: api.EvDrain, Client: 16, Seq: 7},
		{Kind: api.EvSubmit, Client: 2, Seq: 1, Specs: []api.Spec{parse(t, "user=ana part=main nodes=1 demand=1,0,0,0 wall=5 array=3 retries=2"), parse(t, short+" after=-1")}},
		pass(6), over(1, 1, 1, api.HowDone), {Kind: api.EvCancel, Client: 2, Seq: 2, Job: 2},
	} {
		must(t, tab, e)
	}
	text := short + " retries=2"
	want := image{
		head: []int{4, 6, 2, 2, 2, 2, 2, 16, 7, 0, 0}, nodes: []int{0, 1, -1, 1, 0, 2}, count: -1,
		jobs: []row{
			{text, nil, []int{int(api.Done), 1, 2, 0, 0, 6}, []int{1}, nil},
			{text, nil, []int{int(api.Ending), 1, 2, 0, 1, 6}, []int{1}, []int{0}},
			{text, nil, []int{int(api.Pending), 0, 2, 0, 0, 19}, []int{1}, nil},
			{short, []int{1, 2, 3}, []int{int(api.Pending), 0, 0, 0, 0, -1}, nil, nil},
		},
	}
	if b := tab.Put(); !bytes.Equal(b, want.bytes()) {
		t.Errorf("%v\n%v", b, want.bytes())
	}
}

// P14.6

func TestTake(t *testing.T) {
	f := machines(t, someFleet)
	b := some().bytes()
	tab, e := table.Take(f, b)
	if e != api.OK || !bytes.Equal(tab.Put(), b) {
		t.Fatal(e)
	}
	if tab.Epoch() != 3 || tab.Tick() != 20 || len(tab.Jobs()) != 10 {
		t.Error(tab.Epoch(), tab.Tick())
	}
	if n, r := tab.Last(16); n != 1<<40 || r != (api.Reply{Last: 100}) {
		t.Error(n, r)
	}
	if up, drained, since := tab.Node(1); up || !drained || since != -1 {
		t.Error(up, drained, since)
	}
	j, _ := tab.Job(3)
	if !reflect.DeepEqual(j.Parts, []api.Part{{Node: 0, How: 2}, {Node: 1}}) || j.Life != (api.Life{State: api.Ending, Attempt: 1, Wall: true, Stop: true}) || j.Start != 19 {
		t.Error(j)
	}
	b[0] = 99
	if tab.Epoch() != 3 {
		t.Error("shares memory")
	}
	if tab, e := table.Take(nil, some().bytes()); tab != nil || e != api.ErrArg {
		t.Error(tab, e)
	}
	must(t, tab, api.Event{Kind: api.EvPass, Tick: 21})
	is(t, tab, 5, api.Cancelled, 1, -1) // job 7 is cancelled: the first event that settles dooms job 5
}

func TestTakeAtTheBounds(t *testing.T) {
	f := machines(t, someFleet)
	for i, change := range []func(m *image){
		func(m *image) { m.head[0], m.head[1] = 0, -1 }, func(m *image) { m.head[0], m.head[1] = 1<<40, api.MaxTick-1 },
		func(m *image) { m.head[4], m.head[5], m.head[6] = 1, 0, 0 }, func(m *image) { m.head[4], m.head[5], m.head[6] = 1<<40, 100, 100 },
		func(m *image) { m.nodes[2], m.nodes[5] = -1, api.MaxTick-1 }, func(m *image) { m.nodes[0], m.nodes[1] = 0, 1 },
		func(m *image) { m.jobs = nil }, func(m *image) { m.head = []int{0, -1, 0} },
		func(m *image) {
			for len(m.jobs) < 100 {
				m.jobs = append(m.jobs, m.jobs[6])
			}
			m.jobs[3].after = []int{1, 100}
		},
		func(m *image) { m.jobs[2].hows = []int{0, 3} }, func(m *image) { m.jobs[2].hows = []int{1, 0} },
	} {
		m := some()
		change(&m)
		if tab, e := table.Take(f, m.bytes()); e != api.OK || !bytes.Equal(tab.Put(), m.bytes()) {
			t.Error(i, e)
		}
	}
}

func TestAPromiseThatIsNoneAnyMore(t *testing.T) {
	m := some()
	m.jobs[4].after = []int{2} // which runs: job 5 may have no promise behind the next pass
	tab, e := table.Take(machines(t, someFleet), m.bytes())
	if e != api.OK {
		t.Fatal(e)
	}
	is(t, tab, 5, api.Pending, 1, 40, 1)
	must(t, tab, pass(21))
	is(t, tab, 5, api.Pending, 1, -1)
}

func TestTakeOfWhatMayNotBe(t *testing.T) {
	f := machines(t, someFleet)
	set := func(l *[]int, i, n int) {
		*l = slices.Clone(*l)
		(*l)[i] = n
	}
	for i, change := range []func(m *image){
		func(m *image) { m.head[0] = -1 }, func(m *image) { m.head[0] = 1<<40 + 1 },
		func(m *image) { m.head[1] = -2 }, func(m *image) { m.head[1] = api.MaxTick },
		func(m *image) { m.head[2] = -1 }, func(m *image) { m.head[2] = 17 }, func(m *image) { m.head[2] = 1 },
		func(m *image) { m.head[3] = 0 }, func(m *image) { m.head[3] = 16 }, func(m *image) { m.head[7] = 17 }, func(m *image) { m.head[3], m.head[7] = 16, 1 },
		func(m *image) { m.head[4] = 0 }, func(m *image) { m.head[8] = 1<<40 + 1 },
		func(m *image) { m.head[5] = -1 }, func(m *image) { m.head[5] = 101 }, func(m *image) { m.head[6] = -1 }, func(m *image) { m.head[10] = 101 },
		func(m *image) { m.nodes[0] = 2 }, func(m *image) { m.nodes[0] = -1 }, func(m *image) { m.nodes[1] = 2 }, func(m *image) { m.nodes[2] = -2 }, func(m *image) { m.nodes[5] = api.MaxTick },
		func(m *image) { m.nodes = m.nodes[:3] }, func(m *image) { m.nodes = append(m.nodes, 0, 0, -1) },
		func(m *image) { m.count = 9 }, func(m *image) { m.count = 11 }, func(m *image) { m.count = 101 }, func(m *image) { m.count = 1 << 50 },
		func(m *image) {
			for len(m.jobs) < 101 {
				m.jobs = append(m.jobs, m.jobs[3])
			}
		},
		func(m *image) { m.jobs[0].text = "" }, func(m *image) { m.jobs[0].text = "user=ana" }, func(m *image) { m.jobs[0].text = short + " array=1" },
		func(m *image) { m.jobs[0].text = short + " array=2" }, func(m *image) { m.jobs[3].text = short + " after=1" },
		func(m *image) { m.jobs[6].text = "user=ana part=none nodes=1 demand=1,0,0,0 wall=5" }, func(m *image) { m.jobs[6].text = "user=ana part=main nodes=3 demand=1,0,0,0 wall=5" },
		func(m *image) { m.jobs[3].after = []int{3, 2} }, func(m *image) { m.jobs[3].after = []int{3, 3} }, func(m *image) { m.jobs[3].after = []int{0} },
		func(m *image) { m.jobs[3].after = []int{11} }, func(m *image) { m.jobs[3].after = []int{4} }, func(m *image) { m.jobs[3].after = []int{-1} },
		func(m *image) { set(&m.jobs[0].life, 0, 0) }, func(m *image) { set(&m.jobs[0].life, 0, 9) }, func(m *image) { set(&m.jobs[0].life, 1, 0) }, func(m *image) { set(&m.jobs[0].life, 2, 6) },
		func(m *image) { set(&m.jobs[2].life, 3, 2) }, func(m *image) { set(&m.jobs[2].life, 4, -1) }, func(m *image) { set(&m.jobs[1].life, 3, 1) },
		func(m *image) { set(&m.jobs[0].life, 5, -1); m.jobs[0].gang = nil }, func(m *image) { set(&m.jobs[8].life, 5, -1); m.jobs[8].gang = nil }, func(m *image) { set(&m.jobs[9].life, 5, -1); m.jobs[9].gang = nil },
		func(m *image) { set(&m.jobs[1].life, 5, -1); m.jobs[1].gang = nil }, func(m *image) { set(&m.jobs[1].life, 5, -1); m.jobs[1].gang, m.jobs[1].hows = nil, nil },
		func(m *image) { set(&m.jobs[0].life, 5, -1) }, func(m *image) { set(&m.jobs[0].life, 5, -2) }, func(m *image) { set(&m.jobs[3].life, 5, -2) }, func(m *image) { set(&m.jobs[6].life, 5, -2) }, func(m *image) { m.jobs[0].gang = nil }, func(m *image) { m.jobs[3].gang = []int{0} },
		func(m *image) { set(&m.jobs[8].life, 5, api.MaxTick-12) }, func(m *image) { set(&m.jobs[8].life, 5, 1<<62) }, func(m *image) { set(&m.jobs[8].life, 5, 1<<63-1) },
		func(m *image) { m.jobs[0].gang = []int{0, 1} }, func(m *image) { m.jobs[0].gang = []int{2} }, func(m *image) { m.jobs[0].gang = []int{-1} }, func(m *image) { m.jobs[2].gang = []int{1, 0} }, func(m *image) { m.jobs[2].gang = []int{0, 0} },
		func(m *image) { m.jobs[0].text = "user=ana part=b nodes=1 demand=1,0,0,0 wall=5" },
		func(m *image) { set(&m.jobs[5].life, 5, 30); m.jobs[5].gang = []int{0} },
		func(m *image) { m.jobs[1].hows = nil }, func(m *image) { m.jobs[1].hows = []int{1} }, func(m *image) { m.jobs[1].hows = []int{0, 0} }, func(m *image) { m.jobs[2].hows = []int{4, 0} }, func(m *image) { m.jobs[2].hows = []int{-1, 0} }, func(m *image) { m.jobs[2].hows = []int{0} },
		func(m *image) { m.jobs[0].hows = []int{1} }, func(m *image) { m.jobs[4].hows = []int{0} },
		func(m *image) { m.jobs[1].text = "user=ana part=main nodes=1 demand=2,0,0,0 wall=5" },
	} {
		m := some()
		change(&m)
		if tab, e := table.Take(f, m.bytes()); tab != nil || e != api.ErrBroken {
			t.Error(i, e)
		}
	}
	b := some().bytes()
	for i := range b {
		if tab, e := table.Take(f, b[:i]); tab != nil || e != api.ErrBroken {
			t.Error("truncated", i, e)
		}
	}
	if tab, e := table.Take(f, append(b, 0)); tab != nil || e != api.ErrBroken {
		t.Error("a byte too many", e)
	}
}

func TestTakeIsExact(t *testing.T) {
	f := machines(t, someFleet)
	b := some().bytes()
	rnd := rand.New(rand.NewSource(1))
	for range 20000 {
		c := bytes.Clone(b)
		for range 1 + rnd.Intn(2) {
			c[rnd.Intn(len(c))] ^= 1 << rnd.Intn(8)
		}
		if tab, e := table.Take(f, c); e == api.OK && !bytes.Equal(tab.Put(), c) {
			t.Fatal(c)
		}
	}
}

// P14.8

// chaos is events as they may come, some of them refused.
type chaos struct {
	*rand.Rand
	tick int
	seq  int
}

func (c *chaos) event(tab *table.Table) api.Event {
	c.seq++
	e := api.Event{Client: 1 + c.Intn(2), Seq: c.seq, Job: 1 + c.Intn(20)}
	kinds := []int{api.EvSubmit, api.EvSubmit, api.EvSubmit, api.EvCancel, api.EvHold, api.EvRelease, api.EvDrain, api.EvFill,
		api.EvLost, api.EvBack, api.EvBack, api.EvBack, api.EvPass, api.EvPass, api.EvPass, api.EvPass, api.EvOver, api.EvOver, api.EvOver, api.EvOver, api.EvOver, api.EvOver}
	switch e.Kind = kinds[c.Intn(len(kinds))]; e.Kind {
	case api.EvSubmit:
		e.Job = 0
		for range 1 + c.Intn(2) {
			s := api.Spec{User: string(rune('a' + c.Intn(3))), Part: []string{"main", "a", "b"}[c.Intn(3)], Nodes: 1 + c.Intn(2), Demand: api.Vec{c.Intn(3), c.Intn(3)}, Wall: 1 + c.Intn(9),
				Prio: c.Intn(3), Array: 1 + c.Intn(2), Retries: c.Intn(3), Held: c.Intn(8) == 0}
			if c.Intn(3) == 0 {
				s.After = []int{c.Intn(8) - 2}
			}
			e.Specs = append(e.Specs, s)
		}
	case api.EvDrain, api.EvFill:
		e.Job, e.Node = 0, c.Intn(3)
	case api.EvLost, api.EvBack:
		e = api.Event{Kind: e.Kind, Node: c.Intn(4), Tick: c.tick}
	case api.EvPass:
		c.tick += c.Intn(4)
		e = api.Event{Kind: e.Kind, Tick: c.tick}
	case api.EvOver:
		e = api.Event{Kind: e.Kind, Job: e.Job, Attempt: 1 + c.Intn(2), Node: c.Intn(3), How: 1 + c.Intn(3)}
	}
	return e
}

func TestConsequences(t *testing.T) {
	f := machines(t, "n1 2,2,0,0 main a\nn2 3,1,0,0 main b\nn3 2,2,0,0 main a b\n")
	for seed := range int64(25) {
		c := &chaos{Rand: rand.New(rand.NewSource(seed))}
		tab := table.New(f)
		quiet, promised := false, map[int]int{}
		for range 400 {
			e := c.event(tab)
			jobs := tab.Jobs()
			if tab.Would(e) != api.OK {
				refused(t, tab, e, tab.Would(e))
				continue
			}
			must(t, tab, e)
			check(t, tab, jobs)
			switch e.Kind {
			case api.EvLost, api.EvDrain, api.EvRelease:
				quiet = false
			case api.EvPass:
				least := slices.MinFunc(append([]int{1 << 50}, values(promised)...), func(a, b int) int { return a - b })
				for _, j := range tab.Jobs() {
					if start, ok := promised[j.Id]; ok && quiet && e.Tick <= least && j.Life.State == api.Pending && (j.Start < 0 || j.Start > start) {
						t.Fatal("delayed", j, start)
					}
				}
				quiet, promised = true, map[int]int{}
				for _, j := range tab.Jobs() {
					if j.Life.State == api.Pending && j.Start >= 0 {
						promised[j.Id] = j.Start
					}
				}
				isPlan(t, tab)
			}
			if event.Client(e.Kind) {
				if n, _ := tab.Last(e.Client); n != e.Seq {
					t.Fatal(n, e)
				}
			}
		}
	}
}

func values(m map[int]int) []int {
	var l []int
	for _, n := range m {
		l = append(l, n)
	}
	return l
}

// check holds a table against what its promises say of every one, and against the jobs ahead of the event.
func check(t *testing.T, tab *table.Table, ahead []api.Job) {
	t.Helper()
	f := machines(t, "n1 2,2,0,0 main a\nn2 3,1,0,0 main b\nn3 2,2,0,0 main a b\n")
	b := tab.Put()
	if back, e := table.Take(f, b); e != api.OK || !bytes.Equal(back.Put(), b) {
		t.Fatal("Take of Put", e)
	}
	for i := range f.Len() {
		n, _ := f.Node(i)
		if !vec.Fits(tab.Busy(i), n.Cap) {
			t.Fatal("too busy", i)
		}
	}
	for i, j := range tab.Jobs() {
		if j.Life.Attempt > j.Spec.Retries+1 || !life.Right(j.Life) {
			t.Fatal(j)
		}
		for _, n := range j.Gang {
			if !slices.Contains(f.In(j.Spec.Part), n) {
				t.Fatal("outside its partition", j)
			}
		}
		if life.Live(j.Life.State) != (len(j.Parts) > 0) {
			t.Fatal("parts", j)
		}
		if i < len(ahead) && life.Over(ahead[i].Life.State) && !reflect.DeepEqual(ahead[i], j) {
			t.Fatal("a final state is left", j)
		}
		if spec.Need(j.Spec) == (api.Vec{}) && len(j.Spec.After) <= api.MaxAfter {
			t.Fatal("a spec that may not be", j)
		}
	}
}

// isPlan asks that all that runs and all that is promised fits together.
func isPlan(t *testing.T, tab *table.Table) {
	t.Helper()
	f := machines(t, "n1 2,2,0,0 main a\nn2 3,1,0,0 main b\nn3 2,2,0,0 main a b\n")
	var whole []api.Vec
	var up []bool
	for i := range f.Len() {
		n, _ := f.Node(i)
		isUp, drained, since := tab.Node(i)
		whole, up = append(whole, n.Cap), append(up, isUp && !drained && since < tab.Tick())
	}
	var holds []api.Hold
	var asks []api.Ask
	var slots []api.Slot
	for _, j := range tab.Jobs() {
		if life.Live(j.Life.State) {
			h := api.Hold{Demand: j.Spec.Demand, Until: j.Start + api.Grace + j.Spec.Wall}
			for _, p := range j.Parts {
				if p.How == 0 {
					h.Gang = append(h.Gang, p.Node)
				}
			}
			holds = append(holds, h)
		}
		if j.Life.State == api.Pending {
			asks = append(asks, api.Ask{Id: j.Id, Places: f.In(j.Spec.Part), Nodes: j.Spec.Nodes, Demand: j.Spec.Demand, Ticks: j.Spec.Wall + api.Grace})
			slots = append(slots, api.Slot{Id: j.Id, Start: j.Start, Gang: j.Gang})
		}
	}
	if !plan.May(whole, up, tab.Tick(), holds, asks, slots) {
		t.Fatal("no plan", holds, asks, slots)
	}
}
