package control

import (
	"slices"

	"corvee/api"
	"corvee/code"
	"corvee/event"
	"corvee/life"
	"corvee/net"
	"corvee/session"
)

// handler is what is done about a message, and what is answered.
type handler func(m api.Message, now int) []api.Message

// Hear is what it answers to a message.
func (c *Control) Hear(m api.Message, now int) []api.Message {
	if !c.wakes(now) || !c.leads() || net.Check(m) != api.OK {
		return nil
	}
	var handle handler
	switch m.Kind {
	case api.MsgBeat:
		handle = c.beat
	case api.MsgReport:
		handle = c.report
	case api.MsgAsk:
		handle = c.ask
	default:
		return nil
	}
	answers := handle(m, now)
	if !c.leads() {
		return nil
	}
	return answers
}

// beat grants a node a lease. What began there ahead of its boot does not run any more.
func (c *Control) beat(m api.Message, now int) []api.Message {
	if m.Node >= c.fleet.Len() {
		return nil
	}
	for _, j := range c.table.Jobs() {
		if !life.Live(j.Life.State) || j.Start > m.Boot || !slices.Contains(j.Parts, api.Part{Node: m.Node}) {
			continue
		}
		c.commit(api.Event{Kind: api.EvOver, Job: j.Id, Attempt: j.Life.Attempt, Node: m.Node, How: api.HowGone})
		if !c.leads() {
			return nil
		}
	}
	if up, _, _ := c.table.Node(m.Node); !up {
		if err := c.commit(api.Event{Kind: api.EvBack, Node: m.Node, Tick: now}); err != api.OK {
			return nil
		}
	}
	until, _ := c.keeper.Grant(m.Node, now)
	return []api.Message{{Kind: api.MsgGrant, Epoch: c.claim.Epoch, Node: m.Node, Sent: now, Until: until}}
}

// report ends a part. A node that reports what is over already is to stop doing so, too.
func (c *Control) report(m api.Message, _ int) []api.Message {
	err := c.commit(api.Event{Kind: api.EvOver, Job: m.Job, Attempt: m.Attempt, Node: m.Node, How: m.How})
	if !c.leads() || err != api.OK && err != api.ErrState && err != api.ErrJob {
		return nil
	}
	return []api.Message{{Kind: api.MsgAck, Epoch: c.claim.Epoch, Node: m.Node, Job: m.Job, Attempt: m.Attempt}}
}

// ask does a client's request, if that has not been done.
func (c *Control) ask(m api.Message, _ int) []api.Message {
	last, told := c.table.Last(m.Client)
	switch kind, reply := c.server.Look(m, last, told); kind {
	case session.Skip:
		return nil
	case session.Answer:
		return []api.Message{reply}
	}
	reply := c.request(m)
	if !c.leads() {
		return nil
	}
	done, ok := c.server.Done(m.Client, m.Seq, reply)
	if !ok {
		return nil
	}
	return []api.Message{done}
}

// request commits the event that a client asks for.
func (c *Control) request(m api.Message) api.Reply {
	r := code.Read(m.Body)
	e := event.Take(r)
	if r.End() != api.OK || !event.Client(e.Kind) || e.Client != m.Client || e.Seq != m.Seq {
		return api.Reply{E: api.ErrEvent}
	}
	if err := c.commit(e); err != api.OK {
		return api.Reply{E: err}
	}
	_, reply := c.table.Last(m.Client)
	return reply
}
