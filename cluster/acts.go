package cluster

import (
	"corvee/api"
	"corvee/net"
)

// send sends a message to an address.
func (c *Cluster) send(to int, m api.Message) {
	c.net.Send(to, net.Pack(m))
}

// sendUp sends messages of a node or a client: it does not know who leads.
func (c *Cluster) sendUp(messages []api.Message) {
	for _, m := range messages {
		for i := range c.controls {
			c.send(controlBase+i, m)
		}
	}
}

// sendDown sends messages of a controller.
func (c *Cluster) sendDown(messages []api.Message) {
	for _, m := range messages {
		if m.Kind == api.MsgReply {
			c.send(clientBase+m.Client, m)
		} else {
			c.send(m.Node, m)
		}
	}
}

// tick lets ticks go by, of which there are only so many.
func (c *Cluster) tick(a Act) api.Errno {
	c.now = min(c.now+min(max(a.A, 0), mostTicks), api.MaxTick-1)
	return api.OK
}

func (c *Cluster) bootControl(a Act) api.Errno {
	return c.controls[a.A].Boot(c.now)
}

func (c *Cluster) crashControl(a Act) api.Errno {
	c.controls[a.A].Crash()
	return api.OK
}

func (c *Cluster) stepControl(a Act) api.Errno {
	c.sendDown(c.controls[a.A].Step(c.now))
	return api.OK
}

func (c *Cluster) bootNode(a Act) api.Errno {
	return c.agents[a.A].Boot(c.now)
}

func (c *Cluster) crashNode(a Act) api.Errno {
	c.agents[a.A].Crash()
	return api.OK
}

func (c *Cluster) stepNode(a Act) api.Errno {
	c.sendUp(c.agents[a.A].Step(c.now))
	return api.OK
}

func (c *Cluster) stepClient(a Act) api.Errno {
	if m, ok := c.clients[a.A-1].Send(c.now); ok {
		c.sendUp([]api.Message{m})
	}
	return api.OK
}

// deliver hands a packet to whom it goes, if it is whole and there is somebody.
func (c *Cluster) deliver(a Act) api.Errno {
	to, b, _ := c.net.Deliver(a.A)
	m, err := net.Unpack(b)
	if err != api.OK {
		return api.OK
	}
	switch client, controller := to-clientBase, to-controlBase; {
	case c.isNode(to):
		c.agents[to].Hear(m, c.now)
	case isClient(client):
		if r, ok := c.clients[client-1].Hear(m); ok {
			c.heard[client-1] = append(c.heard[client-1], Heard{Seq: m.Seq, Reply: r})
		}
	case isControl(controller):
		c.sendDown(c.controls[controller].Hear(m, c.now))
	}
	return api.OK
}

func (c *Cluster) drop(a Act) api.Errno {
	c.net.Deliver(a.A)
	return api.OK
}

func (c *Cluster) double(a Act) api.Errno {
	c.net.Double(a.A)
	return api.OK
}

func (c *Cluster) spoil(a Act) api.Errno {
	if !c.net.Spoil(a.A, a.B) {
		return api.ErrArg
	}
	return api.OK
}

func (c *Cluster) cut(a Act) api.Errno {
	c.disk.Cut(a.A)
	return api.OK
}

func (c *Cluster) ask(a Act) api.Errno {
	return c.clients[a.A-1].Ask(a.Body)
}

// calm boots what is not up, and lets rounds go by.
func (c *Cluster) calm(a Act) api.Errno {
	for _, controller := range c.controls {
		if !controller.Up() {
			controller.Boot(c.now)
		}
	}
	for _, node := range c.agents {
		if !node.Up() {
			node.Boot(c.now)
		}
	}
	for range min(max(a.A, 0), mostRounds) {
		c.round()
	}
	return api.OK
}

// round is a tick in which everybody makes a step, and everything comes to whom it goes.
func (c *Cluster) round() {
	c.tick(Act{A: 1})
	for i := range c.controls {
		c.stepControl(Act{A: i})
	}
	for i := range c.agents {
		c.stepNode(Act{A: i})
	}
	for i := range c.clients {
		c.stepClient(Act{A: i + 1})
	}
	first := Act{A: 0}
delivering:
	for range mostPackets { // what is delivered may send more
		if c.net.Len() == 0 {
			break delivering
		}
		c.deliver(first)
	}
}
