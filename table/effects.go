package table

import (
	"slices"

	"corvee/api"
	"corvee/deps"
	"corvee/life"
	"corvee/spec"
)

// has tells whether there is a job of that number.
func (t *Table) has(id int) bool {
	return 1 <= id && id <= len(t.jobs)
}

// sign gives a job a sign. One that its state doesn't know leaves it as it is.
func sign(j *api.Job, s api.Sign) {
	if next, err := life.Next(j.Life, s); err == api.OK {
		j.Life = next
	}
}

// forget takes a job's promise away.
func forget(j *api.Job) {
	j.Start, j.Gang = -1, nil
}

func waits(j *api.Job) bool {
	return j.Life.State == api.Pending || j.Life.State == api.Held
}

// endPart ends the part of a job at a place of its parts.
func endPart(j *api.Job, place, how int) {
	j.Parts[place].How = how
	switch how {
	case api.HowWall:
		sign(j, api.SignWall)
	case api.HowGone:
		sign(j, api.SignGone)
	}
}

// endParts ends those parts that have not ended and of which which is true.
func (t *Table) endParts(which func(j *api.Job, p api.Part) bool) {
	for i := range t.jobs {
		j := &t.jobs[i]
		for place, p := range j.Parts {
			if p.How == 0 && which(j, p) {
				endPart(j, place, api.HowGone)
			}
		}
	}
	t.settle()
}

// settle ends the attempts of which all parts have ended.
func (t *Table) settle() {
	running := func(p api.Part) bool { return p.How == 0 }
	for i := range t.jobs {
		j := &t.jobs[i]
		if !life.Live(j.Life.State) || slices.ContainsFunc(j.Parts, running) {
			continue
		}
		sign(j, api.SignOver)
		j.Parts = nil
		if j.Life.State == api.Pending {
			forget(j)
		}
	}
	t.doom()
}

// doom ends what waits for jobs that will never be done, and what waits for that in turn.
func (t *Table) doom() {
	lost := func(id int) bool {
		s := t.jobs[id-1].Life.State
		return life.Over(s) && s != api.Done
	}
	for found := true; found; {
		found = false
		for i := range t.jobs {
			j := &t.jobs[i]
			if waits(j) && slices.ContainsFunc(j.Spec.After, lost) {
				sign(j, api.SignDoom)
				forget(j)
				found = true
			}
		}
	}
}

func (t *Table) mayLead(e api.Event) api.Errno {
	if e.Epoch <= t.epoch {
		return api.ErrPast
	}
	return api.OK
}

func (t *Table) lead(e api.Event) api.Reply {
	t.epoch = e.Epoch
	return api.Reply{}
}

func (t *Table) maySubmit(e api.Event) api.Errno {
	jobs := len(t.jobs)
	for _, s := range e.Specs {
		if err := spec.Suits(t.fleet, s); err != api.OK {
			return err
		}
		jobs += s.Array
	}
	if jobs > api.MaxJobs {
		return api.ErrTable
	}
	_, err := t.resolve(e.Specs)
	return err
}

// resolve is for which jobs those of each spec wait.
func (t *Table) resolve(specs []api.Spec) ([][]int, api.Errno) {
	var sizes []int
	var after [][]int
	for _, s := range specs {
		sizes, after = append(sizes, s.Array), append(after, s.After)
	}
	return deps.Resolve(len(t.jobs)+1, sizes, after)
}

func (t *Table) submit(e api.Event) api.Reply {
	after, _ := t.resolve(e.Specs)
	first := len(t.jobs) + 1
	for k, s := range e.Specs {
		born, _ := life.New(s.Retries, s.Held)
		for _, one := range spec.Expand(s) {
			one.After = slices.Clone(after[k])
			t.jobs = append(t.jobs, api.Job{Id: len(t.jobs) + 1, Spec: one, Life: born, Start: -1})
		}
	}
	t.doom()
	return api.Reply{First: first, Last: len(t.jobs)}
}

// asked is the sign that a client asks for.
func asked(kind int) api.Sign {
	switch kind {
	case api.EvCancel:
		return api.SignCancel
	case api.EvHold:
		return api.SignHold
	}
	return api.SignRelease
}

func (t *Table) mayTurn(e api.Event) api.Errno {
	if !t.has(e.Job) {
		return api.ErrJob
	}
	_, err := life.Next(t.jobs[e.Job-1].Life, asked(e.Kind))
	return err
}

func (t *Table) turn(e api.Event) api.Reply {
	j := &t.jobs[e.Job-1]
	sign(j, asked(e.Kind))
	if !life.Live(j.Life.State) {
		forget(j)
	}
	t.doom()
	return api.Reply{First: e.Job, Last: e.Job}
}

func (t *Table) mayEnd(e api.Event) api.Errno {
	if !t.has(e.Job) {
		return api.ErrJob
	}
	j := t.jobs[e.Job-1]
	if !life.Live(j.Life.State) || j.Life.Attempt != e.Attempt || !slices.Contains(j.Parts, api.Part{Node: e.Node}) {
		return api.ErrState
	}
	return api.OK
}

func (t *Table) end(e api.Event) api.Reply {
	j := &t.jobs[e.Job-1]
	endPart(j, slices.Index(j.Parts, api.Part{Node: e.Node}), e.How)
	t.settle()
	return api.Reply{}
}

// mayMove asks what both a loss and a return of a node ask; up is what the node must be.
func (t *Table) mayMove(e api.Event, up bool) api.Errno {
	switch {
	case e.Node >= len(t.nodes):
		return api.ErrNode
	case e.Tick < t.tick:
		return api.ErrPast
	case t.nodes[e.Node].up != up:
		return api.ErrState
	}
	return api.OK
}

func (t *Table) mayLose(e api.Event) api.Errno {
	return t.mayMove(e, true)
}

func (t *Table) lose(e api.Event) api.Reply {
	t.nodes[e.Node].up = false
	t.endParts(func(_ *api.Job, p api.Part) bool { return p.Node == e.Node })
	return api.Reply{}
}

func (t *Table) mayReturn(e api.Event) api.Errno {
	return t.mayMove(e, false)
}

func (t *Table) comeBack(e api.Event) api.Reply {
	t.nodes[e.Node].up, t.nodes[e.Node].since = true, e.Tick
	return api.Reply{}
}

// mayService asks what both draining and filling ask; drained is what the node must be.
func (t *Table) mayService(e api.Event, drained bool) api.Errno {
	switch {
	case e.Node >= len(t.nodes):
		return api.ErrNode
	case t.nodes[e.Node].drained != drained:
		return api.ErrState
	}
	return api.OK
}

func (t *Table) mayDrain(e api.Event) api.Errno {
	return t.mayService(e, false)
}

func (t *Table) drain(e api.Event) api.Reply {
	t.nodes[e.Node].drained = true
	return api.Reply{}
}

func (t *Table) mayFill(e api.Event) api.Errno {
	return t.mayService(e, true)
}

func (t *Table) fill(e api.Event) api.Reply {
	t.nodes[e.Node].drained = false
	return api.Reply{}
}
