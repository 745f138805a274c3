package session_test

import (
	"bytes"
	"math"
	"math/rand"
	"reflect"
	"testing"

	"corvee/api"
	"corvee/session"
)

var none = api.Message{}

func same(a, b api.Message) bool {
	if !bytes.Equal(a.Body, b.Body) {
		return false
	}
	a.Body, b.Body = nil, nil
	return reflect.DeepEqual(a, b)
}

func ask(epoch, client, seq int, body string) api.Message {
	return api.Message{Kind: api.MsgAsk, Epoch: epoch, Client: client, Seq: seq, Body: []byte(body)}
}

func told(epoch, client, seq int, r api.Reply) api.Message {
	return api.Message{Kind: api.MsgReply, Epoch: epoch, Client: client, Seq: seq, Reply: r}
}

// sends asks what a client sends at a tick: nothing, if want is the zero message.
func sends(t *testing.T, c *session.Client, now int, want api.Message) {
	t.Helper()
	if m, ok := c.Send(now); !same(m, want) || ok != (want.Kind != 0) {
		t.Error(now, m, ok)
	}
}

func is(t *testing.T, c *session.Client, seq, epoch int, open bool) {
	t.Helper()
	if s, e, o := c.State(); s != seq || e != epoch || o != open {
		t.Error(s, e, o)
	}
}

// P19.1

func TestNewClient(t *testing.T) {
	for _, id := range []int{0, -1, 17, math.MaxInt} {
		if session.NewClient(id) != nil {
			t.Error(id)
		}
	}
	for _, id := range []int{1, 16} {
		c := session.NewClient(id)
		if c == nil {
			t.Fatal(id)
		}
		is(t, c, 0, 0, false)
	}
}

func TestAsk(t *testing.T) {
	c := session.NewClient(3)
	sends(t, c, 1, none)
	if e := c.Ask(make([]byte, api.MaxText+1)); e != api.ErrLimit {
		t.Error(e)
	}
	is(t, c, 0, 0, false)
	body := []byte("abc")
	if e := c.Ask(body); e != api.OK {
		t.Error(e)
	}
	is(t, c, 1, 0, true)
	body[0] = 'z'
	if e := c.Ask(make([]byte, api.MaxText+1)); e != api.ErrState {
		t.Error(e)
	}
	is(t, c, 1, 0, true)
	m, _ := c.Send(0)
	if !same(m, ask(0, 3, 1, "abc")) {
		t.Error(m)
	}
	m.Body[0] = 'z'
	sends(t, c, 4, ask(0, 3, 1, "abc"))
	if e := session.NewClient(1).Ask(make([]byte, api.MaxText)); e != api.OK {
		t.Error(e)
	}
}

func TestSend(t *testing.T) {
	c := session.NewClient(3)
	c.Ask(nil)
	m := ask(0, 3, 1, "")
	sends(t, c, -1, none)
	sends(t, c, api.MaxTick, none)
	sends(t, c, 3, m)
	for now := 3; now < 7; now++ {
		sends(t, c, now, none)
	}
	sends(t, c, 7, m)
	sends(t, c, 10, none)
	sends(t, c, 5, m) // earlier than it was sent
	sends(t, c, 8, none)
	sends(t, c, 9, m)
	sends(t, c, api.MaxTick-1, m)
	sends(t, c, math.MaxInt, none)
	sends(t, c, 0, m)
}

// P19.2

func TestHear(t *testing.T) {
	good := api.Reply{First: 4, Last: 5}
	c := session.NewClient(3)
	hear := func(m api.Message, want api.Reply, ok bool) {
		t.Helper()
		if r, closed := c.Hear(m); r != want || closed != ok {
			t.Error(m, r, closed)
		}
	}
	hear(told(0, 3, 0, good), api.Reply{}, false)
	c.Ask([]byte("x"))
	sends(t, c, 3, ask(0, 3, 1, "x"))
	hear(told(0, 3, 1, api.Reply{E: api.ErrEpoch}), api.Reply{}, false)
	sends(t, c, 4, none) // no greater epoch: nothing changed
	hear(told(6, 3, 1, api.Reply{E: api.ErrEpoch}), api.Reply{}, false)
	is(t, c, 1, 6, true)
	sends(t, c, 4, ask(6, 3, 1, "x"))
	hear(told(5, 3, 1, api.Reply{E: api.ErrEpoch}), api.Reply{}, false)
	is(t, c, 1, 6, true)
	sends(t, c, 5, none)
	hear(told(5, 3, 1, good), api.Reply{}, false)
	hear(told(7, 3, 1, good), api.Reply{}, false)
	hear(told(6, 4, 1, good), api.Reply{}, false)
	hear(told(6, 3, 2, good), api.Reply{}, false)
	hear(told(6, 3, 1, api.Reply{E: 1000}), api.Reply{}, false)
	hear(ask(6, 3, 1, ""), api.Reply{}, false)
	hear(api.Message{}, api.Reply{}, false)
	hear(told(9, 4, 1, api.Reply{E: api.ErrEpoch}), api.Reply{}, false)
	is(t, c, 1, 6, true)
	hear(told(6, 3, 1, good), good, true)
	is(t, c, 1, 6, false)
	sends(t, c, 99, none)
	hear(told(6, 3, 1, good), api.Reply{}, false)
	hear(told(9, 3, 1, api.Reply{E: api.ErrEpoch}), api.Reply{}, false)
	is(t, c, 1, 6, false)
	c.Ask(nil)
	sends(t, c, 0, ask(6, 3, 2, ""))
	hear(told(6, 3, 1, good), api.Reply{}, false)
	hear(told(6, 3, 2, api.Reply{E: api.ErrJob}), api.Reply{E: api.ErrJob}, true)
}

// P19.3

func TestNewServer(t *testing.T) {
	for _, epoch := range []int{0, -1, 1<<40 + 1, math.MaxInt} {
		if session.NewServer(epoch) != nil {
			t.Error(epoch)
		}
	}
	if session.NewServer(1) == nil || session.NewServer(1<<40) == nil {
		t.Error("the least and the greatest epoch")
	}
	if session.Skip != 0 || session.Answer != 1 || session.Do != 2 {
		t.Error("the kinds' numbers")
	}
}

func TestLook(t *testing.T) {
	s := session.NewServer(5)
	look := func(m api.Message, last int, r api.Reply, kind int, want api.Message) {
		t.Helper()
		if k, got := s.Look(m, last, r); k != kind || !same(got, want) {
			t.Error(m, k, got)
		}
	}
	old, fresh := api.Reply{First: 1, Last: 1}, api.Reply{E: api.ErrJob}
	look(api.Message{}, 0, old, session.Skip, none)
	look(told(5, 2, 1, old), 0, old, session.Skip, none)
	look(ask(5, 17, 1, ""), 0, old, session.Skip, none)
	look(ask(4, 17, 1, ""), 0, old, session.Skip, none)
	look(ask(4, 2, 1, ""), 0, old, session.Answer, told(5, 2, 1, api.Reply{E: api.ErrEpoch}))
	look(ask(6, 2, 9, ""), 20, old, session.Answer, told(5, 2, 9, api.Reply{E: api.ErrEpoch}))
	look(ask(5, 2, 1, "x"), 0, api.Reply{}, session.Do, none)
	look(ask(5, 2, 3, ""), 4, old, session.Skip, none)
	look(ask(5, 2, 4, ""), 4, old, session.Answer, told(5, 2, 4, old))
	look(ask(5, 2, 5, ""), 4, old, session.Do, none)
	look(ask(5, 2, 4, ""), 4, api.Reply{E: 1000}, session.Skip, none)
	look(ask(5, 2, 4, ""), 4, api.Reply{First: -1}, session.Skip, none)
	s.Done(2, 5, fresh)
	look(ask(5, 2, 4, ""), 4, old, session.Skip, none)
	look(ask(5, 2, 5, ""), 4, old, session.Answer, told(5, 2, 5, fresh))
	look(ask(5, 2, 5, ""), 5, old, session.Answer, told(5, 2, 5, fresh)) // what is kept for that Seq comes first
	look(ask(5, 2, 6, ""), 5, old, session.Do, none)
	look(ask(5, 2, 7, ""), 7, old, session.Answer, told(5, 2, 7, old))
	look(ask(5, 2, 5, ""), 7, old, session.Skip, none)
	look(ask(5, 3, 1, ""), 0, old, session.Do, none)
}

// P19.4

func TestDone(t *testing.T) {
	s := session.NewServer(5)
	r := api.Reply{E: 999, First: 100, Last: 0}
	for _, c := range []struct {
		client, seq int
		r           api.Reply
		ok          bool
	}{
		{2, 3, r, true}, {2, 3, r, false}, {2, 2, r, false}, {2, 4, api.Reply{E: 1000}, false}, {2, 4, api.Reply{First: 101}, false}, {2, 4, api.Reply{Last: -1}, false},
		{0, 4, r, false}, {17, 4, r, false}, {3, 0, r, false}, {3, -1, r, false}, {3, 1<<40 + 1, r, false}, {3, 1 << 40, r, true}, {2, 4, r, true},
	} {
		want := none
		if c.ok {
			want = told(5, c.client, c.seq, c.r)
		}
		if m, ok := s.Done(c.client, c.seq, c.r); ok != c.ok || !same(m, want) {
			t.Error(c, m, ok)
		}
	}
	if k, m := s.Look(ask(5, 2, 4, ""), 0, api.Reply{}); k != session.Answer || m.Reply != r {
		t.Error(k, m)
	}
}

// P19.5

func TestNil(t *testing.T) {
	var c *session.Client
	m, ok := c.Send(1)
	r, heard := c.Hear(told(0, 1, 1, api.Reply{}))
	seq, epoch, open := c.State()
	if c.Ask(nil) != api.ErrArg || !same(m, none) || ok || r != (api.Reply{}) || heard || seq != 0 || epoch != 0 || open {
		t.Error("nil client")
	}
	var s *session.Server
	k, m := s.Look(ask(1, 1, 1, ""), 0, api.Reply{})
	d, ok := s.Done(1, 1, api.Reply{})
	if k != session.Skip || !same(m, none) || !same(d, none) || ok {
		t.Error("nil server")
	}
}

// P19.6

// TestOnce lets three clients ask servers of rising epochs over a network that doubles, delays and loses everything.
func TestOnce(t *testing.T) {
	for seed := range int64(30) {
		rnd := rand.New(rand.NewSource(seed))
		clients := []*session.Client{session.NewClient(1), session.NewClient(2), session.NewClient(3)}
		server := session.NewServer(1)
		type done struct {
			seq   int
			reply api.Reply
		}
		table, effects, refusals := map[int]done{}, map[[2]int]int{}, map[[2]int]int{}
		var wires []api.Message
		for now := range 3000 {
			if rnd.Intn(200) == 0 {
				server = session.NewServer(2 + now)
			}
			c := clients[rnd.Intn(3)]
			c.Ask([]byte{byte(rnd.Intn(2))})
			if m, ok := c.Send(now); ok {
				wires = append(wires, m)
			}
			if len(wires) == 0 {
				continue
			}
			i := rnd.Intn(len(wires))
			m := wires[i]
			if rnd.Intn(3) > 0 {
				wires = append(wires[:i], wires[i+1:]...)
			}
			key := [2]int{m.Client, m.Seq}
			if m.Kind == api.MsgReply {
				if r, ok := clients[m.Client-1].Hear(m); ok && (r.E == api.OK) != (effects[key] == 1) {
					t.Fatal("told otherwise", m)
				}
				continue
			}
			last := table[m.Client]
			switch kind, reply := server.Look(m, last.seq, last.reply); kind {
			case session.Answer:
				wires = append(wires, reply)
			case session.Do:
				r := api.Reply{E: api.ErrJob}
				if m.Body[0] == 0 {
					r = api.Reply{First: 1 + rnd.Intn(9)}
					effects[key]++
					table[m.Client] = done{m.Seq, r}
				} else {
					refusals[key]++
				}
				reply, _ := server.Done(m.Client, m.Seq, r)
				wires = append(wires, reply)
			}
			if effects[key] > 1 || effects[key] == 1 && refusals[key] > 0 {
				t.Fatal("done twice", key)
			}
		}
	}
}
