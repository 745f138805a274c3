package control

import (
	"corvee/api"
	"corvee/journal"
	"corvee/lease"
	"corvee/life"
	"corvee/session"
)

// Step is what it does, and sends, by itself.
func (c *Control) Step(now int) []api.Message {
	if !c.wakes(now) {
		return nil
	}
	var sent []api.Message
steps:
	for _, step := range []func(int) []api.Message{c.lead, c.lose, c.pass, c.orders} {
		sent = step(now)
		if !c.leads() {
			sent = nil
			break steps
		}
	}
	return sent
}

// lead takes the lead, or keeps it.
func (c *Control) lead(now int) []api.Message {
	if !c.leads() {
		c.take(now)
		return nil
	}
	if c.claim.Until > now+renewal {
		return nil
	}
	claim, err := lease.Renew(c.disk, c.claim, now)
	if err != api.OK {
		c.reign = nil
		return nil
	}
	c.claim = claim
	return nil
}

// take takes the lead, if it is free and the log can be read.
func (c *Control) take(now int) {
	claim, err := lease.Take(c.disk, c.id, now)
	if err != api.OK {
		return
	}
	j, t, err := journal.Open(c.disk, claim.Epoch, c.fleet)
	if err != api.OK {
		return
	}
	c.reign = &reign{claim: claim, journal: j, table: t, keeper: lease.NewKeeper(c.fleet.Len(), now),
		server: session.NewServer(claim.Epoch), sent: map[order]int{}}
	if err := c.commit(api.Event{Kind: api.EvEpoch, Epoch: claim.Epoch}); err != api.OK {
		c.reign = nil
	}
}

// lose gives up the nodes of which the leases have ended.
func (c *Control) lose(now int) []api.Message {
	for i := range c.fleet.Len() {
		if up, _, _ := c.table.Node(i); !up || !c.keeper.Lost(i, now) {
			continue
		}
		c.commit(api.Event{Kind: api.EvLost, Node: i, Tick: now})
		if !c.leads() {
			break
		}
	}
	return nil
}

// pass plans, if there is anything to plan.
func (c *Control) pass(now int) []api.Message {
	if now <= c.table.Tick() {
		return nil
	}
	for _, j := range c.table.Jobs() {
		if j.Life.State == api.Pending || life.Live(j.Life.State) {
			c.commit(api.Event{Kind: api.EvPass, Tick: now})
			break
		}
	}
	return nil
}

// orders is what the nodes are told about the parts that have not ended.
func (c *Control) orders(now int) []api.Message {
	var sent []api.Message
	for _, j := range c.table.Jobs() {
		for _, p := range j.Parts {
			m := c.order(j, p.Node, now)
			if p.How != 0 || m.Kind == 0 {
				continue
			}
			o := order{kind: m.Kind, job: j.Id, attempt: j.Life.Attempt, node: p.Node}
			if at, ok := c.sent[o]; ok && at > now-api.Resend {
				continue
			}
			c.sent[o] = now
			sent = append(sent, m)
		}
	}
	return sent
}

// order is what a node is told about its part of a live job; the zero message, if nothing is.
func (c *Control) order(j api.Job, node, now int) api.Message {
	m := api.Message{Epoch: c.claim.Epoch, Node: node, Job: j.Id, Attempt: j.Life.Attempt}
	switch {
	case j.Life.State == api.Ending:
		m.Kind = api.MsgKill
	case j.Life.State == api.Running && now <= j.Start+api.Grace:
		m.Kind, m.Start, m.Wall, m.Demand = api.MsgLaunch, j.Start, j.Spec.Wall, j.Spec.Demand
	default:
		return api.Message{}
	}
	return m
}
