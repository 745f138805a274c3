package agent

import (
	"iter"

	"corvee/api"
	"corvee/vec"
)

// key is which part it is: of which job, in which attempt.
type key struct {
	job     int
	attempt int
}

// part is one that the agent knows.
type part struct {
	key
	demand api.Vec
	begun  int
	done   int  // when its work ends
	wall   int  // when its time is over
	how    int  // 0: it runs
	due    bool // whether it has to be reported
	told   bool // whether it was reported since it had to be
	sent   int  // when it was reported last
}

// end ends a part, or makes one that has ended be reported once more.
func (p *part) end(how int) {
	if p.how == 0 {
		p.how = how
	}
	if !p.due {
		p.due, p.told = true, false
	}
}

// report tells whether a part is to be reported now, and takes that as done.
func (p *part) report(now int) bool {
	if !p.due || p.told && now < p.sent+api.Resend {
		return false
	}
	p.told, p.sent = true, now
	return true
}

// running is the parts that run, in the order in which they became known.
func (a *Agent) running() iter.Seq[*part] {
	return func(yield func(*part) bool) {
		for _, p := range a.parts {
			if p.how == 0 && !yield(p) {
				return
			}
		}
	}
}

// until is the tick until which a part runs, as far as the lease goes now.
func (a *Agent) until(p *part) int {
	return min(p.done, p.wall, a.end)
}

// settle ends the parts that don't run any more.
func (a *Agent) settle(now int) {
	for p := range a.running() {
		switch until := a.until(p); {
		case until > now:
			continue
		case until == p.done:
			p.end(api.HowDone)
		case until == p.wall:
			p.end(api.HowWall)
		default:
			p.end(api.HowGone)
		}
	}
}

// learn makes a part known.
func (a *Agent) learn(p *part) {
	a.parts = append(a.parts, p)
	a.known[p.key] = p
}

// launch begins a part, or refuses to for good: it may have run here ahead of what the agent can know of.
func (a *Agent) launch(m api.Message, now int) {
	k := key{m.Job, m.Attempt}
	if a.known[k] != nil {
		return
	}
	p := &part{key: k, demand: m.Demand, begun: now, done: now + a.duration(m.Job), wall: now + m.Wall}
	if now >= a.end || m.Start <= a.since || m.Start <= a.booted || now > m.Start+api.Grace || !a.fits(m.Demand) {
		p.end(api.HowGone)
	}
	a.learn(p)
}

// fits tells whether an amount is free beside all that runs.
func (a *Agent) fits(v api.Vec) bool {
	for p := range a.running() {
		for i := range v {
			v[i] += p.demand[i]
		}
	}
	return vec.Fits(v, a.whole)
}

// duration is how many ticks a job's work takes.
func (a *Agent) duration(job int) int {
	if len(a.work) == 0 {
		return 1
	}
	return min(max(a.work[(job-1)%len(a.work)], 1), longest)
}

// kill ends a part; one that was never launched here will not be, then.
func (a *Agent) kill(m api.Message, _ int) {
	k := key{m.Job, m.Attempt}
	if a.known[k] == nil {
		a.learn(&part{key: k})
	}
	a.known[k].end(api.HowGone)
}

// ack ends the reports of a part.
func (a *Agent) ack(m api.Message, _ int) {
	if p := a.known[key{m.Job, m.Attempt}]; p != nil && p.how != 0 {
		p.due = false
	}
}

// Running is what runs on it at a tick.
func (a *Agent) Running(now int) []api.Run {
	if !a.Up() {
		return nil
	}
	var runs []api.Run
	for p := range a.running() {
		if end := a.until(p); p.begun <= now && now < end {
			runs = append(runs, api.Run{Job: p.job, Attempt: p.attempt, Demand: p.demand, Begun: p.begun, End: end})
		}
	}
	return runs
}
