package net_test

import (
	"bytes"
	"math"
	"math/rand"
	"reflect"
	"testing"

	"corvee/api"
	"corvee/code"
	"corvee/frame"
	"corvee/net"
)

const most = 1 << 40

// messages is one of each kind, with the least and with the greatest numbers.
func messages() []api.Message {
	full := api.Vec{api.MaxRes, api.MaxRes, api.MaxRes, api.MaxRes}
	return []api.Message{
		{Kind: api.MsgBeat}, {Kind: api.MsgBeat, Node: 15, Boot: api.MaxTick - 1},
		{Kind: api.MsgGrant}, {Kind: api.MsgGrant, Epoch: most, Node: 15, Sent: api.MaxTick - 1, Until: 1 << 41},
		{Kind: api.MsgLaunch, Job: 1, Attempt: 1, Wall: 1}, {Kind: api.MsgLaunch, Epoch: most, Node: 15, Job: 100, Attempt: 6, Start: api.MaxTick - 1, Wall: 1000, Demand: full},
		{Kind: api.MsgKill, Job: 1, Attempt: 1}, {Kind: api.MsgKill, Epoch: most, Node: 15, Job: 100, Attempt: 6},
		{Kind: api.MsgReport, Job: 1, Attempt: 1, How: 1}, {Kind: api.MsgReport, Node: 15, Job: 100, Attempt: 6, How: 3},
		{Kind: api.MsgAck, Job: 1, Attempt: 1}, {Kind: api.MsgAck, Epoch: most, Node: 15, Job: 100, Attempt: 6},
		{Kind: api.MsgAsk, Client: 1, Seq: 1}, {Kind: api.MsgAsk, Epoch: most, Client: 16, Seq: most, Body: bytes.Repeat([]byte{255}, api.MaxText)},
		{Kind: api.MsgReply, Client: 1, Seq: 1}, {Kind: api.MsgReply, Epoch: most, Client: 16, Seq: most, Reply: api.Reply{E: 999, First: 100, Last: 100}},
	}
}

// wrongs is a message with one field that is beyond its bounds, or not its own.
func wrongs(m api.Message) []api.Message {
	var l []api.Message
	own := map[int]string{api.MsgBeat: "nb", api.MsgGrant: "ensu", api.MsgLaunch: "enjatw0123", api.MsgKill: "enja", api.MsgReport: "njah", api.MsgAck: "enja", api.MsgAsk: "ecq", api.MsgReply: "ecqEFL"}[m.Kind]
	for _, f := range []struct {
		letter    byte
		low, high int
		set       func(m *api.Message, n int)
	}{
		{'e', 0, most, func(m *api.Message, n int) { m.Epoch = n }}, {'n', 0, 15, func(m *api.Message, n int) { m.Node = n }},
		{'b', 0, api.MaxTick - 1, func(m *api.Message, n int) { m.Boot = n }}, {'s', 0, api.MaxTick - 1, func(m *api.Message, n int) { m.Sent = n }},
		{'u', 0, 1 << 41, func(m *api.Message, n int) { m.Until = n }}, {'j', 1, 100, func(m *api.Message, n int) { m.Job = n }},
		{'a', 1, 6, func(m *api.Message, n int) { m.Attempt = n }}, {'t', 0, api.MaxTick - 1, func(m *api.Message, n int) { m.Start = n }},
		{'w', 1, 1000, func(m *api.Message, n int) { m.Wall = n }}, {'h', 1, 3, func(m *api.Message, n int) { m.How = n }},
		{'0', 0, api.MaxRes, func(m *api.Message, n int) { m.Demand[0] = n }}, {'1', 0, api.MaxRes, func(m *api.Message, n int) { m.Demand[1] = n }},
		{'2', 0, api.MaxRes, func(m *api.Message, n int) { m.Demand[2] = n }}, {'3', 0, api.MaxRes, func(m *api.Message, n int) { m.Demand[3] = n }},
		{'c', 1, 16, func(m *api.Message, n int) { m.Client = n }}, {'q', 1, most, func(m *api.Message, n int) { m.Seq = n }},
		{'E', 0, 999, func(m *api.Message, n int) { m.Reply.E = api.Errno(n) }}, {'F', 0, 100, func(m *api.Message, n int) { m.Reply.First = n }}, {'L', 0, 100, func(m *api.Message, n int) { m.Reply.Last = n }},
	} {
		values := []int{1, -1}
		if bytes.IndexByte([]byte(own), f.letter) >= 0 {
			values = []int{f.low - 1, f.high + 1, math.MaxInt, math.MinInt}
		}
		for _, n := range values {
			c := m
			f.set(&c, n)
			l = append(l, c)
		}
	}
	c := m
	if c.Body = []byte{0}; m.Kind == api.MsgAsk {
		c.Body = make([]byte, api.MaxText+1)
	}
	l = append(l, c)
	for _, kind := range []int{0, -1, 9, math.MaxInt} {
		c := m
		c.Kind = kind
		l = append(l, c)
	}
	return l
}

// P18.1

func TestCheck(t *testing.T) {
	for _, m := range messages() {
		if e := net.Check(m); e != api.OK {
			t.Error(m, e)
		}
		for _, w := range wrongs(m) {
			if e := net.Check(w); e != api.ErrForm || net.Pack(w) != nil {
				t.Error(w, e)
			}
		}
	}
	if net.Check(api.Message{}) != api.ErrForm {
		t.Error("the zero message")
	}
}

func framed(b ...byte) []byte {
	f, _ := frame.Frame(b)
	return f
}

func TestPack(t *testing.T) {
	for _, c := range []struct {
		m    api.Message
		want []byte
	}{
		{api.Message{Kind: api.MsgBeat, Node: 1, Boot: 5}, []byte{2, 2, 10}},
		{api.Message{Kind: api.MsgGrant, Epoch: 1, Node: 2, Sent: 3, Until: 4}, []byte{4, 2, 4, 6, 8}},
		{api.Message{Kind: api.MsgLaunch, Epoch: 1, Node: 2, Job: 3, Attempt: 4, Start: 5, Wall: 6, Demand: api.Vec{7, 8, 9, 10}}, []byte{6, 2, 4, 6, 8, 10, 12, 14, 16, 18, 20}},
		{api.Message{Kind: api.MsgKill, Epoch: 1, Node: 2, Job: 3, Attempt: 4}, []byte{8, 2, 4, 6, 8}},
		{api.Message{Kind: api.MsgReport, Node: 2, Job: 3, Attempt: 4, How: 1}, []byte{10, 4, 6, 8, 2}},
		{api.Message{Kind: api.MsgAck, Epoch: 1, Node: 2, Job: 3, Attempt: 4}, []byte{12, 2, 4, 6, 8}},
		{api.Message{Kind: api.MsgAsk, Epoch: 1, Client: 2, Seq: 3, Body: []byte("ab")}, []byte{14, 2, 4, 6, 2, 'a', 'b'}},
		{api.Message{Kind: api.MsgReply, Epoch: 1, Client: 2, Seq: 3, Reply: api.Reply{E: 4, First: 5, Last: 6}}, []byte{16, 2, 4, 6, 8, 10, 12}},
	} {
		if b := net.Pack(c.m); !bytes.Equal(b, framed(c.want...)) {
			t.Error(c.m, b)
		}
	}
}

// P18.2

func TestUnpackErrors(t *testing.T) {
	good := framed(2, 2, 10)
	spoilt := bytes.Clone(good)
	spoilt[5] ^= 1
	long := append([]byte{14, 2, 4, 6}, code.Text(nil, string(make([]byte, api.MaxText+1)))...)
	for i, c := range []struct {
		b    []byte
		want api.Errno
	}{
		{nil, api.ErrShort}, {good[:len(good)-1], api.ErrShort}, {spoilt, api.ErrSum}, {append(bytes.Clone(spoilt), 0), api.ErrSum}, {append(bytes.Clone(good), 0), api.ErrForm}, {[]byte{0, 1, 0, 1}, api.ErrForm},
		{framed(), api.ErrShort}, {framed(128), api.ErrShort}, {framed(128, 0), api.ErrForm}, {framed(18), api.ErrForm}, {framed(0), api.ErrForm}, {framed(1, 128), api.ErrForm},
		{framed(2, 2), api.ErrShort}, {framed(2, 1), api.ErrShort}, {framed(2, 2, 128, 0), api.ErrForm}, {framed(2, 2, 10, 0), api.ErrForm}, {framed(2, 2, 11), api.ErrForm}, {framed(2, 32, 10), api.ErrForm},
		{framed(14, 2, 4, 6, 2, 'a'), api.ErrShort}, {framed(14, 2, 0, 6, 2, 'a'), api.ErrShort}, {framed(long...), api.ErrForm}, {framed(16, 2, 4, 6, 208, 15, 0, 0), api.ErrForm},
		{good, api.OK},
	} {
		m, e := net.Unpack(c.b)
		if e != c.want || e != api.OK && !reflect.DeepEqual(m, api.Message{}) {
			t.Error(i, m, e)
		}
	}
}

// P18.3

func holds(t *testing.T, n *net.Net, want ...string) {
	t.Helper()
	if n.Len() != len(want) {
		t.Fatal(n.Len(), want)
	}
	for i, s := range want {
		if to, b, ok := n.Peek(i); to != len(s) || string(b) != s || !ok {
			t.Error(i, to, b, ok, s)
		}
	}
}

func TestNet(t *testing.T) {
	n := net.New()
	holds(t, n)
	b := []byte("one")
	n.Send(3, b)
	b[0] = 'x'
	n.Send(4, []byte("four"))
	n.Send(0, nil)
	n.Send(5, []byte("fiver"))
	holds(t, n, "one", "four", "", "fiver")
	for _, i := range []int{-1, 4, math.MaxInt, math.MinInt} {
		to, b, ok := n.Peek(i)
		to2, b2, ok2 := n.Deliver(i)
		if to != 0 || b != nil || ok || to2 != 0 || b2 != nil || ok2 || n.Double(i) || n.Spoil(i, 0) {
			t.Error("a packet that there isn't", i)
		}
	}
	_, peeked, _ := n.Peek(1)
	peeked[0] = 'x'
	if to, b, ok := n.Deliver(1); to != 4 || string(b) != "four" || !ok {
		t.Error(to, b, ok)
	}
	holds(t, n, "one", "", "fiver")
	if !n.Double(0) {
		t.Error("Double")
	}
	holds(t, n, "one", "", "fiver", "one")
	if !n.Spoil(0, 0) || !n.Spoil(0, 9) || !n.Spoil(0, 23) {
		t.Error("Spoil")
	}
	for bit := range 24 {
		one := net.New()
		one.Send(3, []byte("one"))
		want := []byte("one")
		want[bit/8] ^= 1 << (bit % 8)
		one.Spoil(0, bit)
		holds(t, one, string(want))
	}
	for _, bit := range []int{-1, 24, math.MaxInt, math.MinInt} {
		if n.Spoil(0, bit) {
			t.Error(bit)
		}
	}
	if n.Spoil(1, 0) {
		t.Error("a bit of nothing")
	}
	holds(t, n, string([]byte{'o' ^ 1, 'n' ^ 2, 'e' ^ 128}), "", "fiver", "one")
	n.Deliver(3)
	n.Deliver(0)
	holds(t, n, "", "fiver")
}

func TestQueueIsBounded(t *testing.T) {
	n := net.New()
	for range api.MaxQueue {
		n.Send(1, []byte("a"))
	}
	n.Send(2, []byte("bb"))
	if n.Len() != api.MaxQueue || !n.Double(0) || n.Len() != api.MaxQueue {
		t.Error(n.Len())
	}
	n.Deliver(0)
	n.Send(2, []byte("bb"))
	n.Send(2, []byte("bb"))
	if to, _, _ := n.Peek(api.MaxQueue - 1); n.Len() != api.MaxQueue || to != 2 {
		t.Error(n.Len(), to)
	}
}

// P18.4

func TestNil(t *testing.T) {
	var n *net.Net
	n.Send(1, []byte("a"))
	to, b, ok := n.Peek(0)
	to2, b2, ok2 := n.Deliver(0)
	if n.Len() != 0 || to != 0 || b != nil || ok || to2 != 0 || b2 != nil || ok2 || n.Double(0) || n.Spoil(0, 0) {
		t.Error("nil net")
	}
}

// P18.5

func TestThereAndBack(t *testing.T) {
	for _, m := range messages() {
		b := net.Pack(m)
		back, e := net.Unpack(b)
		if e != api.OK || !bytes.Equal(back.Body, m.Body) {
			t.Fatal(m, e)
		}
		if !bytes.Equal(net.Pack(back), b) {
			t.Error("another packet", m)
		}
		if back.Body = m.Body; !reflect.DeepEqual(back, m) {
			t.Error(m, back)
		}
		for i := 32; i < 8*len(b) && i < 4000; i++ {
			c := bytes.Clone(b)
			c[i/8] ^= 1 << (i % 8)
			if _, e := net.Unpack(c); e != api.ErrSum {
				t.Fatal("a bit is inverted", i, e)
			}
		}
	}
}

func TestUnpackedIsPackedTheSame(t *testing.T) {
	rnd := rand.New(rand.NewSource(1))
	for range 30000 {
		b := make([]byte, rnd.Intn(9))
		rnd.Read(b)
		for i := range b {
			b[i] >>= rnd.Intn(8)
		}
		p := framed(b...)
		if m, e := net.Unpack(p); e == api.OK && !bytes.Equal(net.Pack(m), p) {
			t.Fatal(b, m)
		}
	}
}
