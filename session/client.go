// Package session is layer 19: requests that are done once.
package session

import (
	"bytes"

	"corvee/api"
	"corvee/net"
)

// maxNumber is the greatest epoch, and the greatest number of a request.
const maxNumber = 1 << 40

// Client is one who asks, one thing at a time.
type Client struct {
	id    int
	seq   int
	epoch int
	open  bool
	body  []byte
	due   bool // whether the request was never sent in this epoch
	sent  int  // when it was sent last
}

// NewClient is a client with a number.
func NewClient(id int) *Client {
	if id < 1 || id > api.MaxClients {
		return nil
	}
	return &Client{id: id}
}

// Ask begins to ask.
func (c *Client) Ask(body []byte) api.Errno {
	switch {
	case c == nil:
		return api.ErrArg
	case c.open:
		return api.ErrState
	case len(body) > api.MaxText || c.seq >= maxNumber:
		return api.ErrLimit
	}
	c.seq++
	c.open, c.due, c.body = true, true, bytes.Clone(body)
	return api.OK
}

// Send is what is to be sent now.
func (c *Client) Send(now int) (api.Message, bool) {
	if c == nil || !c.open || now < 0 || now >= api.MaxTick {
		return api.Message{}, false
	}
	if !c.due && c.sent <= now && now < c.sent+api.Resend {
		return api.Message{}, false
	}
	c.due, c.sent = false, now
	return api.Message{Kind: api.MsgAsk, Epoch: c.epoch, Client: c.id, Seq: c.seq, Body: bytes.Clone(c.body)}, true
}

// Hear is a reply that ends what was asked.
func (c *Client) Hear(m api.Message) (api.Reply, bool) {
	if c == nil || !c.open || net.Check(m) != api.OK || m.Kind != api.MsgReply || m.Client != c.id || m.Seq != c.seq {
		return api.Reply{}, false
	}
	if m.Reply.E == api.ErrEpoch {
		if m.Epoch > c.epoch {
			c.epoch, c.due = m.Epoch, true
		}
		return api.Reply{}, false
	}
	if m.Epoch != c.epoch {
		return api.Reply{}, false
	}
	c.open, c.body = false, nil
	return m.Reply, true
}

// State is the number of what was asked last, in which epoch, and whether it has no reply yet.
func (c *Client) State() (int, int, bool) {
	if c == nil {
		return 0, 0, false
	}
	return c.seq, c.epoch, c.open
}
