// Package net is layer 18: messages as packets, and a network that may lose them.
package net

import (
	"slices"

	"corvee/api"
	"corvee/code"
	"corvee/frame"
)

const (
	maxNumber = 1 << 40 // the greatest epoch, and the greatest number of a request
	maxUntil  = 1 << 41 // the greatest end of a lease
	maxError  = 999
)

// carrier is what becomes of each field: it is handed what the field is, and answers what it shall be.
type carrier struct {
	number func(n int) int
	body   func(b []byte) []byte
}

// field is a field of a message, to be handed to a carrier.
type field func(c carrier)

func number[T ~int](p *T) field {
	return func(c carrier) { *p = T(c.number(int(*p))) }
}

func body(p *[]byte) field {
	return func(c carrier) { *p = c.body(*p) }
}

func carry(c carrier, fields ...field) {
	for _, f := range fields {
		f(c)
	}
}

// list hands the fields of a message's kind to a carrier, in order. It tells whether there is such a kind.
func list(m *api.Message, c carrier) bool {
	switch m.Kind {
	case api.MsgBeat:
		carry(c, number(&m.Node), number(&m.Boot))
	case api.MsgGrant:
		carry(c, number(&m.Epoch), number(&m.Node), number(&m.Sent), number(&m.Until))
	case api.MsgLaunch:
		carry(c, number(&m.Epoch), number(&m.Node), number(&m.Job), number(&m.Attempt), number(&m.Start), number(&m.Wall),
			number(&m.Demand[0]), number(&m.Demand[1]), number(&m.Demand[2]), number(&m.Demand[3]))
	case api.MsgKill, api.MsgAck:
		carry(c, number(&m.Epoch), number(&m.Node), number(&m.Job), number(&m.Attempt))
	case api.MsgReport:
		carry(c, number(&m.Node), number(&m.Job), number(&m.Attempt), number(&m.How))
	case api.MsgAsk:
		carry(c, number(&m.Epoch), number(&m.Client), number(&m.Seq), body(&m.Body))
	case api.MsgReply:
		carry(c, number(&m.Epoch), number(&m.Client), number(&m.Seq), number(&m.Reply.E), number(&m.Reply.First), number(&m.Reply.Last))
	default:
		return false
	}
	return true
}

// Check asks whether a message may be.
func Check(m api.Message) api.Errno {
	low := api.Message{Kind: m.Kind, Job: 1, Attempt: 1, Wall: 1, How: api.HowDone, Client: 1, Seq: 1}
	high := api.Message{Kind: m.Kind, Epoch: maxNumber, Node: api.MaxNodes - 1, Boot: api.MaxTick - 1, Sent: api.MaxTick - 1, Until: maxUntil,
		Job: api.MaxJobs, Attempt: api.MaxRetries + 1, Start: api.MaxTick - 1, Wall: api.MaxWall, How: api.HowGone,
		Demand: api.Vec{api.MaxRes, api.MaxRes, api.MaxRes, api.MaxRes}, Client: api.MaxClients, Seq: maxNumber,
		Reply: api.Reply{E: maxError, First: api.MaxJobs, Last: api.MaxJobs}}
	least, most := numbers(low), numbers(high)
	for i, n := range numbers(m) {
		if n < least[i] || n > most[i] {
			return api.ErrForm
		}
	}
	wipe := carrier{number: func(int) int { return 0 }, body: func([]byte) []byte { return nil }}
	if len(m.Body) > api.MaxText || !list(&m, wipe) || !blank(m) {
		return api.ErrForm
	}
	return api.OK
}

// numbers is the numbers of a message's kind, in order.
func numbers(m api.Message) []int {
	var l []int
	keep := func(n int) int {
		l = append(l, n)
		return n
	}
	list(&m, carrier{number: keep, body: func(b []byte) []byte { return b }})
	return l
}

// blank tells whether all of a message but its kind is nothing.
func blank(m api.Message) bool {
	l := append([]int{m.Epoch, m.Node, m.Boot, m.Sent, m.Until, m.Job, m.Attempt, m.Start, m.Wall, m.How, m.Client, m.Seq,
		int(m.Reply.E), m.Reply.First, m.Reply.Last, len(m.Body)}, m.Demand[:]...)
	return slices.Max(l) == 0 && slices.Min(l) == 0
}

// Pack is a message's packet.
func Pack(m api.Message) []byte {
	if Check(m) != api.OK {
		return nil
	}
	b := code.Int(nil, m.Kind)
	write := func(n int) int {
		b = append(b, code.Int(nil, n)...)
		return n
	}
	text := func(t []byte) []byte {
		b = append(b, code.Text(nil, string(t))...)
		return t
	}
	list(&m, carrier{number: write, body: text})
	packet, _ := frame.Frame(b) // a message that may be is never too long
	return packet
}

// Unpack is a packet's message.
func Unpack(b []byte) (api.Message, api.Errno) {
	inner, rest, err := frame.Next(b)
	if err != api.OK {
		return api.Message{}, err
	}
	if len(rest) > 0 {
		return api.Message{}, api.ErrForm
	}
	r := code.Read(inner)
	take := carrier{
		number: func(int) int { return r.Int() },
		body:   func([]byte) []byte { return []byte(r.Text(api.MaxText)) },
	}
	m := api.Message{Kind: r.Int()}
	if !list(&m, take) {
		r.Fail(api.ErrForm)
	}
	if err := r.End(); err != api.OK {
		return api.Message{}, err
	}
	if Check(m) != api.OK {
		return api.Message{}, api.ErrForm
	}
	return m, api.OK
}
