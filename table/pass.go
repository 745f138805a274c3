package table

import (
	"corvee/api"
	"corvee/life"
	"corvee/order"
	"corvee/plan"
	"corvee/spec"
)

// lateFrom is the first tick at which a job that has begun is late.
func lateFrom(j *api.Job) int {
	return j.Start + api.Grace + j.Spec.Wall
}

func (t *Table) mayPass(e api.Event) api.Errno {
	if e.Tick <= t.tick {
		return api.ErrPast
	}
	return api.OK
}

// pass promises each job that waits a start, and starts those whose start has come.
func (t *Table) pass(e api.Event) api.Reply {
	t.tick = e.Tick
	t.endParts(func(j *api.Job, _ api.Part) bool { return e.Tick >= lateFrom(j) })
	whole, up := t.machines()
	// The holds always fit: a table in which they don't is neither made by events nor taken from bytes.
	slots, _ := plan.Pass(whole, up, e.Tick, t.holds(), t.asks())
	for i := range t.jobs {
		if j := &t.jobs[i]; j.Life.State == api.Pending {
			forget(j)
		}
	}
	for _, s := range slots {
		j := &t.jobs[s.Id-1]
		j.Start, j.Gang = s.Start, s.Gang
		if s.Start == e.Tick {
			start(j)
		}
	}
	return api.Reply{}
}

func start(j *api.Job) {
	sign(j, api.SignStart)
	for _, i := range j.Gang {
		j.Parts = append(j.Parts, api.Part{Node: i})
	}
}

// machines is what the nodes have, and on which of them jobs may start in this pass.
func (t *Table) machines() ([]api.Vec, []bool) {
	var whole []api.Vec
	var up []bool
	for i, n := range t.nodes {
		machine, _ := t.fleet.Node(i)
		whole = append(whole, machine.Cap)
		up = append(up, n.up && !n.drained && n.since < t.tick)
	}
	return whole, up
}

// holds is what the live jobs have.
func (t *Table) holds() []api.Hold {
	var holds []api.Hold
	for i := range t.jobs {
		j := &t.jobs[i]
		if !life.Live(j.Life.State) {
			continue
		}
		h := api.Hold{Demand: j.Spec.Demand, Until: lateFrom(j)}
		for _, p := range j.Parts {
			if p.How == 0 {
				h.Gang = append(h.Gang, p.Node)
			}
		}
		holds = append(holds, h)
	}
	return holds
}

// asks is the jobs that may start, in the order of their turns.
func (t *Table) asks() []api.Ask {
	var has []api.Use
	var wants []api.Want
	for i := range t.jobs {
		j := &t.jobs[i]
		switch {
		case life.Live(j.Life.State):
			has = append(has, api.Use{User: j.Spec.User, Has: spec.Need(j.Spec)})
		case t.ready(j):
			wants = append(wants, api.Want{Id: j.Id, User: j.Spec.User, Prio: j.Spec.Prio, Need: spec.Need(j.Spec)})
		}
	}
	var asks []api.Ask
	for _, place := range order.Turns(t.fleet.Total(""), has, wants) {
		j := &t.jobs[wants[place].Id-1]
		asks = append(asks, api.Ask{Id: j.Id, Places: t.fleet.In(j.Spec.Part), Nodes: j.Spec.Nodes, Demand: j.Spec.Demand,
			Ticks: j.Spec.Wall + api.Grace, Start: j.Start, Gang: j.Gang})
	}
	return asks
}

// ready tells whether a job is pending, and waits for no job that isn't done.
func (t *Table) ready(j *api.Job) bool {
	if j.Life.State != api.Pending {
		return false
	}
	for _, id := range j.Spec.After {
		if t.jobs[id-1].Life.State != api.Done {
			return false
		}
	}
	return true
}
