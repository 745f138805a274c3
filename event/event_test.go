package event_test

import (
	"bytes"
	"math"
	"reflect"
	"testing"

	"corvee/api"
	"corvee/code"
	"corvee/event"
	"corvee/spec"
)

func job(wall int) api.Spec {
	return api.Spec{User: "ana", Part: "main", Nodes: 1, Demand: api.Vec{1}, Wall: wall, Array: 1}
}

// events is one of each kind, each in two sizes.
func events() []api.Event {
	const most = 1 << 40
	full := job(1000)
	full.Prio, full.Array, full.Retries, full.Held, full.After = 100, 20, 5, true, []int{-1, 7}
	eight := []api.Spec{full, job(1), job(2), job(3), job(4), job(5), job(6), job(7)}
	l := []api.Event{
		{Kind: api.EvEpoch, Epoch: 1}, {Kind: api.EvEpoch, Epoch: most},
		{Kind: api.EvSubmit, Client: 1, Seq: 1, Specs: []api.Spec{job(5)}}, {Kind: api.EvSubmit, Client: 16, Seq: most, Specs: eight},
		{Kind: api.EvPass}, {Kind: api.EvPass, Tick: api.MaxTick - 1},
		{Kind: api.EvOver, Job: 1, Attempt: 1, Node: 0, How: api.HowDone}, {Kind: api.EvOver, Job: 100, Attempt: 6, Node: 15, How: api.HowGone},
	}
	for _, kind := range []int{api.EvCancel, api.EvHold, api.EvRelease} {
		l = append(l, api.Event{Kind: kind, Client: 1, Seq: 1, Job: 1}, api.Event{Kind: kind, Client: 16, Seq: most, Job: 100})
	}
	for _, kind := range []int{api.EvLost, api.EvBack} {
		l = append(l, api.Event{Kind: kind}, api.Event{Kind: kind, Node: 15, Tick: api.MaxTick - 1})
	}
	for _, kind := range []int{api.EvDrain, api.EvFill} {
		l = append(l, api.Event{Kind: kind, Client: 1, Seq: 1}, api.Event{Kind: kind, Client: 16, Seq: most, Node: 15})
	}
	return l
}

// P13.1

func TestCheckOfWhatMayBe(t *testing.T) {
	for _, e := range events() {
		if err := event.Check(e); err != api.OK {
			t.Error(e, err)
		}
	}
}

// wrongs is what an event must not become: a field of its own beyond its bounds, or one that is not its own.
func wrongs(e api.Event) []api.Event {
	var l []api.Event
	add := func(f func(e *api.Event)) {
		c := e
		f(&c)
		l = append(l, c)
	}
	own := map[int]string{api.EvEpoch: "e", api.EvSubmit: "csp", api.EvCancel: "csj", api.EvHold: "csj", api.EvRelease: "csj", api.EvPass: "t",
		api.EvOver: "janh", api.EvLost: "nt", api.EvBack: "nt", api.EvDrain: "csn", api.EvFill: "csn"}[e.Kind]
	for _, f := range []struct {
		letter    string
		field     func(e *api.Event) *int
		low, high int
	}{
		{"e", func(e *api.Event) *int { return &e.Epoch }, 1, 1 << 40}, {"t", func(e *api.Event) *int { return &e.Tick }, 0, api.MaxTick - 1},
		{"c", func(e *api.Event) *int { return &e.Client }, 1, 16}, {"s", func(e *api.Event) *int { return &e.Seq }, 1, 1 << 40},
		{"j", func(e *api.Event) *int { return &e.Job }, 1, 100}, {"a", func(e *api.Event) *int { return &e.Attempt }, 1, 6},
		{"n", func(e *api.Event) *int { return &e.Node }, 0, 15}, {"h", func(e *api.Event) *int { return &e.How }, 1, 3},
	} {
		values := []int{1, -1}
		if bytes.Contains([]byte(own), []byte(f.letter)) {
			values = []int{f.low - 1, f.high + 1, math.MaxInt, math.MinInt}
		}
		for _, n := range values {
			add(func(e *api.Event) { *f.field(e) = n })
		}
	}
	if e.Kind != api.EvSubmit {
		add(func(e *api.Event) { e.Specs = []api.Spec{job(1)} })
	} else {
		add(func(e *api.Event) { e.Specs = nil })
		add(func(e *api.Event) { e.Specs = make([]api.Spec, 9) })
		add(func(e *api.Event) {
			e.Specs = []api.Spec{job(1), job(1), job(1), job(1), job(1), job(1), job(1), job(1), job(1)}
		})
		add(func(e *api.Event) { e.Specs = []api.Spec{job(1), job(0)} })
	}
	for _, kind := range []int{0, -1, 12, math.MaxInt, math.MinInt} {
		add(func(e *api.Event) { e.Kind = kind })
	}
	return l
}

func TestCheckOfWhatMayNotBe(t *testing.T) {
	for _, e := range events() {
		for _, w := range wrongs(e) {
			if err := event.Check(w); err != api.ErrEvent {
				t.Error(w, err)
			}
			if b := event.Put([]byte{7}, w); !bytes.Equal(b, []byte{7}) {
				t.Error(w, b)
			}
		}
	}
	if event.Check(api.Event{}) != api.ErrEvent {
		t.Error("the zero event")
	}
}

func TestClient(t *testing.T) {
	for kind := -1; kind < 14; kind++ {
		want := kind == api.EvSubmit || kind == api.EvCancel || kind == api.EvHold || kind == api.EvRelease || kind == api.EvDrain || kind == api.EvFill
		if event.Client(kind) != want {
			t.Error(kind)
		}
	}
}

// P13.2

func TestPut(t *testing.T) {
	text := spec.Text(job(5))
	for _, c := range []struct {
		e    api.Event
		want []byte
	}{
		{api.Event{Kind: api.EvEpoch, Epoch: 64}, []byte{2, 128, 1}},
		{api.Event{Kind: api.EvSubmit, Client: 2, Seq: 3, Specs: []api.Spec{job(5)}}, append([]byte{4, 4, 6, 2, byte(len(text))}, text...)},
		{api.Event{Kind: api.EvCancel, Client: 2, Seq: 3, Job: 4}, []byte{6, 4, 6, 8}},
		{api.Event{Kind: api.EvPass, Tick: 3}, []byte{12, 6}},
		{api.Event{Kind: api.EvOver, Job: 1, Attempt: 1, Node: 0, How: 2}, []byte{14, 2, 2, 0, 4}},
		{api.Event{Kind: api.EvLost, Node: 1, Tick: 2}, []byte{16, 2, 4}},
		{api.Event{Kind: api.EvBack, Node: 1, Tick: 2}, []byte{18, 2, 4}},
		{api.Event{Kind: api.EvDrain, Client: 1, Seq: 2, Node: 3}, []byte{20, 2, 4, 6}},
		{api.Event{Kind: api.EvFill, Client: 1, Seq: 2, Node: 3}, []byte{22, 2, 4, 6}},
	} {
		if b := event.Put([]byte{9, 9}, c.e); !bytes.Equal(b, append([]byte{9, 9}, c.want...)) {
			t.Error(c.e, b)
		}
	}
	whole := []byte{1, 2, 3, 4}
	event.Put(whole[:1], api.Event{Kind: api.EvPass, Tick: 3})
	if b := event.Put(whole[:2], api.Event{}); !bytes.Equal(whole, []byte{1, 2, 3, 4}) || &b[0] == &whole[0] {
		t.Error("not in new memory", whole)
	}
}

// P13.3

func TestTakeErrors(t *testing.T) {
	text := func(s string) []byte { return code.Text(nil, s) }
	join := func(l ...[]byte) []byte { return bytes.Join(l, nil) }
	good := text(spec.Text(job(5)))
	for i, c := range []struct {
		b    []byte
		want api.Errno
	}{
		{nil, api.ErrShort}, {[]byte{128}, api.ErrShort}, {[]byte{128, 0}, api.ErrForm},
		{[]byte{0}, api.ErrEvent}, {[]byte{1}, api.ErrEvent}, {[]byte{24}, api.ErrEvent}, {[]byte{24, 128}, api.ErrEvent},
		{[]byte{12}, api.ErrShort}, {[]byte{12, 5}, api.ErrEvent}, {[]byte{14, 2, 2, 0}, api.ErrShort}, {[]byte{14, 0, 128, 0}, api.ErrForm}, {[]byte{14, 2, 2, 0, 8}, api.ErrEvent},
		{[]byte{4, 2, 2, 0}, api.ErrEvent}, {[]byte{4, 2, 2, 18}, api.ErrEvent}, {[]byte{4, 2, 2, 1}, api.ErrEvent}, {[]byte{4, 2, 2}, api.ErrShort},
		{[]byte{4, 2, 2, 2}, api.ErrShort}, {[]byte{4, 2, 2, 2, 0}, api.ErrEvent},
		{join([]byte{4, 2, 2, 4}, good), api.ErrShort},
		{join([]byte{4, 2, 2, 4}, text("user=ana")), api.ErrEvent},
		{join([]byte{4, 2, 2, 2}, text(spec.Text(job(5))+" array=1")), api.ErrEvent},
		{join([]byte{4, 2, 2, 2}, text("part=main user=ana nodes=1 demand=1,0,0,0 wall=5")), api.ErrEvent},
		{join([]byte{4, 2, 2, 2}, text(string(make([]byte, api.MaxText+1)))), api.ErrForm},
		{join([]byte{4, 2, 2, 2}, text(string(make([]byte, api.MaxText)))), api.ErrEvent},
		{join([]byte{4, 0, 2, 2}, good), api.ErrEvent}, {join([]byte{4, 34, 2, 2}, good), api.ErrEvent}, {join([]byte{4, 2, 2, 2}, good), api.OK},
		{join([]byte{4, 0, 2, 4}, good), api.ErrShort}, // bounds are checked at the end
	} {
		r := code.Read(c.b)
		e := event.Take(r)
		if r.Err() != c.want || c.want != api.OK && !reflect.DeepEqual(e, api.Event{}) {
			t.Error(i, c.b, e, r.Err())
		}
	}
}

func TestTakeKeepsTheFirstError(t *testing.T) {
	r := code.Read([]byte{12, 6})
	r.Fail(api.ErrSum)
	if e := event.Take(r); !reflect.DeepEqual(e, api.Event{}) || r.Err() != api.ErrSum {
		t.Error(e, r.Err())
	}
	if e := event.Take(nil); !reflect.DeepEqual(e, api.Event{}) {
		t.Error(e)
	}
}

func TestTakeLeavesTheRest(t *testing.T) {
	r := code.Read([]byte{12, 6, 1, 2})
	if e := event.Take(r); e.Tick != 3 || r.Left() != 2 || r.Err() != api.OK {
		t.Error(e, r.Left())
	}
}

// P13.4

func TestThereAndBack(t *testing.T) {
	for _, e := range events() {
		b := event.Put(nil, e)
		r := code.Read(b)
		if back := event.Take(r); !reflect.DeepEqual(back, e) || r.End() != api.OK {
			t.Error(e, back, r.Err())
		}
		for i := range b {
			r := code.Read(b[:i])
			event.Take(r)
			if r.Err() != api.ErrShort {
				t.Error("truncated", e, i, r.Err())
			}
		}
	}
}

func TestOneEncodingOnly(t *testing.T) {
	for _, e := range events() {
		b := event.Put(nil, e)
		for i := range b {
			for bit := range 8 {
				c := bytes.Clone(b)
				c[i] ^= 1 << bit
				r := code.Read(c)
				other := event.Take(r)
				if r.End() == api.OK && (!bytes.Equal(event.Put(nil, other), c) || reflect.DeepEqual(other, e)) {
					t.Fatal(e, other, i, bit)
				}
			}
		}
	}
}
