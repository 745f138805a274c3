package table

import (
	"slices"

	"corvee/api"
	"corvee/code"
	"corvee/fleet"
	"corvee/life"
	"corvee/spec"
	"corvee/vec"
)

// maxNumber is the greatest epoch, and the greatest number of a request.
const maxNumber = 1 << 40

// writer puts what it is handed behind its bytes.
type writer struct {
	b []byte
}

func (w *writer) ints(l ...int) {
	for _, n := range l {
		w.b = append(w.b, code.Int(nil, n)...)
	}
}

func (w *writer) row(l []int) {
	w.b = append(w.b, code.Ints(nil, l)...)
}

func bit(b bool) int {
	if b {
		return 1
	}
	return 0
}

// Put is the table as bytes.
func (t *Table) Put() []byte {
	if !t.made() {
		return nil
	}
	w := &writer{}
	w.ints(t.epoch, t.tick, len(t.clients))
	for id := range api.MaxClients + 1 {
		if c, ok := t.clients[id]; ok {
			w.ints(id, c.seq, c.reply.First, c.reply.Last)
		}
	}
	for _, n := range t.nodes {
		w.ints(bit(n.up), bit(n.drained), n.since)
	}
	w.ints(len(t.jobs))
	for _, j := range t.jobs {
		w.job(j)
	}
	return w.b
}

func (w *writer) job(j api.Job) {
	bare := j.Spec
	bare.After = nil
	w.b = append(w.b, code.Text(nil, spec.Text(bare))...)
	w.row(j.Spec.After)
	l := j.Life
	w.ints(int(l.State), l.Attempt, l.Left, bit(l.Wall), bit(l.Stop), j.Start)
	w.row(j.Gang)
	var hows []int
	for _, p := range j.Parts {
		hows = append(hows, p.How)
	}
	w.row(hows)
}

// Take is the table of bytes.
func Take(f *fleet.Fleet, b []byte) (*Table, api.Errno) {
	if f == nil {
		return nil, api.ErrArg
	}
	r := &reader{Reader: code.Read(b)}
	t := New(f)
	r.head(t)
	r.jobs(t)
	if r.End() != api.OK || !t.fits() {
		return nil, api.ErrBroken
	}
	return t, api.OK
}

// fits tells whether what runs on each node fits in what it has.
func (t *Table) fits() bool {
	for i := range t.nodes {
		machine, _ := t.fleet.Node(i)
		if !vec.Fits(t.Busy(i), machine.Cap) {
			return false
		}
	}
	return true
}

// reader takes what it is asked for, and fails at what may not be.
type reader struct {
	*code.Reader
}

// number is a number within bounds.
func (r *reader) number(least, most int) int {
	n := r.Int()
	r.must(least <= n && n <= most)
	return n
}

func (r *reader) must(ok bool) {
	if !ok {
		r.Fail(api.ErrBroken)
	}
}

func (r *reader) bit() bool {
	return r.number(0, 1) == 1
}

// head takes all that stands ahead of the jobs.
func (r *reader) head(t *Table) {
	t.epoch = r.number(0, maxNumber)
	t.tick = r.number(-1, api.MaxTick-1)
	many, last := r.number(0, api.MaxClients), 0
	for i := 0; i < many && r.Err() == api.OK; i++ {
		id := r.number(last+1, api.MaxClients)
		seq := r.number(1, maxNumber)
		t.clients[id] = client{seq: seq, reply: api.Reply{First: r.number(0, api.MaxJobs), Last: r.number(0, api.MaxJobs)}}
		last = id
	}
	for i := range t.nodes {
		n := &t.nodes[i]
		n.up, n.drained, n.since = r.bit(), r.bit(), r.number(-1, api.MaxTick-1)
	}
}

func (r *reader) jobs(t *Table) {
	many := r.number(0, api.MaxJobs)
	for id := 1; id <= many && r.Err() == api.OK; id++ {
		j := api.Job{Id: id}
		r.asked(t, &j, many)
		r.life(&j)
		r.place(t, &j)
		r.parts(&j)
		t.jobs = append(t.jobs, j)
	}
}

// asked takes what a job asks for, and for which of so many jobs it waits.
func (r *reader) asked(t *Table, j *api.Job, many int) {
	text := r.Text(api.MaxText)
	s, err, _ := spec.Parse(text)
	r.must(err == api.OK && spec.Text(s) == text && len(s.After) == 0 && s.Array == 1 && spec.Suits(t.fleet, s) == api.OK)
	s.After = r.Ints(api.MaxJobs)
	r.must(rising(s.After, 1, many) && !slices.Contains(s.After, j.Id))
	j.Spec = s
}

// rising tells whether numbers stand in increasing order, within bounds.
func rising(l []int, least, most int) bool {
	for _, n := range l {
		if n < least || n > most {
			return false
		}
		least = n + 1
	}
	return true
}

func (r *reader) life(j *api.Job) {
	j.Life = api.Life{State: api.State(r.Int()), Attempt: r.Int(), Left: r.Int(), Wall: r.bit(), Stop: r.bit()}
	r.must(life.Right(j.Life))
}

// place takes when and where a job begins, or began.
func (r *reader) place(t *Table, j *api.Job) {
	j.Start = r.number(-1, api.MaxTick)
	j.Gang = r.Ints(api.MaxNodes)
	begun := life.Live(j.Life.State) || life.Over(j.Life.State) && j.Life.State != api.Cancelled
	if j.Start < 0 {
		r.must(len(j.Gang) == 0 && !begun)
		return
	}
	places := t.fleet.In(j.Spec.Part)
	elsewhere := func(i int) bool { return !slices.Contains(places, i) }
	r.must(j.Life.State != api.Held && lateFrom(j) <= api.MaxTick)
	r.must(len(j.Gang) == j.Spec.Nodes && rising(j.Gang, 0, api.MaxNodes) && !slices.ContainsFunc(j.Gang, elsewhere))
}

// parts takes how the parts of a live job have ended; another one has none.
func (r *reader) parts(j *api.Job) {
	hows := r.Ints(api.MaxNodes)
	if r.Err() != api.OK || !life.Live(j.Life.State) {
		r.must(len(hows) == 0)
		return
	}
	r.must(len(hows) == len(j.Gang) && slices.Contains(hows, 0))
	for i, how := range hows {
		r.must(0 <= how && how <= api.HowGone)
		if r.Err() == api.OK {
			j.Parts = append(j.Parts, api.Part{Node: j.Gang[i], How: how})
		}
	}
}
