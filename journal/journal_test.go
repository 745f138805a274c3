package journal_test

import (
	"bytes"
	"math"
	"math/rand"
	"testing"

	"corvee/api"
	"corvee/code"
	"corvee/disk"
	"corvee/event"
	"corvee/fleet"
	"corvee/frame"
	"corvee/journal"
	"corvee/table"
)

func machines(t *testing.T) *fleet.Fleet {
	t.Helper()
	f, e, _ := fleet.Read("n1 2,2,0,0 main\nn2 2,2,0,0 main\n")
	if e != api.OK {
		t.Fatal(e)
	}
	return f
}

func led(epoch, room int) *disk.Disk {
	d := disk.New(room)
	d.Swap(api.Claim{}, api.Claim{Epoch: epoch, Until: 40})
	return d
}

func submit(seq int) api.Event {
	s := api.Spec{User: "ana", Part: "main", Nodes: 1, Demand: api.Vec{1}, Wall: 5, Array: 2}
	return api.Event{Kind: api.EvSubmit, Client: 1, Seq: seq, Specs: []api.Spec{s}}
}

func pass(tick int) api.Event {
	return api.Event{Kind: api.EvPass, Tick: tick}
}

func lead(epoch int) api.Event {
	return api.Event{Kind: api.EvEpoch, Epoch: epoch}
}

func back(node, tick int) api.Event {
	return api.Event{Kind: api.EvBack, Node: node, Tick: tick}
}

// log is the records of events, all of one epoch.
func log(t *testing.T, epoch int, events ...api.Event) []byte {
	t.Helper()
	var b []byte
	for _, e := range events {
		r, err := journal.Record(epoch, e)
		if err != api.OK {
			t.Fatal(e, err)
		}
		b = append(b, r...)
	}
	return b
}

// made is the table of events.
func made(t *testing.T, events ...api.Event) *table.Table {
	t.Helper()
	tab := table.New(machines(t))
	for _, e := range events {
		if _, err := tab.Apply(e); err != api.OK {
			t.Fatal(e, err)
		}
	}
	return tab
}

func framed(body []byte) []byte {
	b, _ := frame.Frame(body)
	return b
}

// P16.1

func TestRecord(t *testing.T) {
	if b, e := journal.Record(3, pass(5)); e != api.OK || !bytes.Equal(b, framed([]byte{6, 12, 10})) {
		t.Error(b, e)
	}
	if b, e := journal.Record(1<<40, submit(1)); e != api.OK || !bytes.Equal(b, framed(event.Put(code.Int(nil, 1<<40), submit(1)))) {
		t.Error(b, e)
	}
	for _, epoch := range []int{0, -1, 1<<40 + 1, math.MaxInt, math.MinInt} {
		if b, e := journal.Record(epoch, pass(-1)); b != nil || e != api.ErrArg {
			t.Error(epoch, b, e)
		}
	}
	if b, e := journal.Record(1, pass(-1)); b != nil || e != api.ErrEvent {
		t.Error(b, e)
	}
}

// P16.2

func TestReplay(t *testing.T) {
	f := machines(t)
	events := []api.Event{lead(2), back(0, 0), submit(1), pass(1)}
	whole := log(t, 2, events...)
	snap := framed(made(t, events[:3]...).Put())
	for i, c := range []struct {
		snap, log []byte
		want      []api.Event
		end       int
		epoch     int
	}{
		{nil, nil, nil, 0, 0},
		{nil, whole, events, len(whole), 2},
		{nil, append(bytes.Clone(whole), 1, 2, 3), events, len(whole), 2},
		{nil, whole[:len(whole)-1], events[:3], len(log(t, 2, events[:3]...)), 2},
		{nil, append(bytes.Clone(whole), log(t, 7, pass(2))...), append(events[:4:4], pass(2)), len(whole) + len(log(t, 7, pass(2))), 7},
		{snap, nil, events[:3], 0, 2},
		{snap, log(t, 2, pass(1)), events, len(log(t, 2, pass(1))), 2},
		{snap, log(t, 1<<40, lead(9)), append(events[:3:3], lead(9)), len(log(t, 1<<40, lead(9))), 1 << 40},
		{nil, log(t, 3, lead(8)), []api.Event{lead(8)}, len(log(t, 3, lead(8))), 8},
		{nil, log(t, 5, lead(4)), []api.Event{lead(4)}, len(log(t, 5, lead(4))), 5},
	} {
		tab, end, epoch, e := journal.Replay(f, c.snap, c.log)
		if e != api.OK || end != c.end || epoch != c.epoch || !bytes.Equal(tab.Put(), made(t, c.want...).Put()) {
			t.Error(i, end, epoch, e)
		}
	}
}

func TestReplayErrors(t *testing.T) {
	f := machines(t)
	put := made(t, lead(4)).Put()
	for i, c := range []struct{ snap, log []byte }{
		{[]byte{1}, nil}, {framed(put)[1:], nil}, {append(framed(put), 0), nil}, {append(framed(put), framed(put)...), nil}, {framed(nil), nil}, {framed(append(bytes.Clone(put), 0)), nil}, {framed(put[1:]), nil},
		{nil, framed(nil)}, {nil, framed([]byte{12, 10})}, {nil, framed([]byte{0, 12, 10})}, {nil, framed([]byte{1, 12, 10})}, {nil, framed([]byte{6, 12, 10, 0})}, {nil, framed([]byte{6, 12, 11})}, {nil, framed(event.Put(code.Int(nil, 1<<40+1), pass(1)))},
		{nil, log(t, 1, pass(1), pass(1))}, {nil, log(t, 1, pass(2), pass(1))}, {nil, log(t, 1, pass(1), api.Event{Kind: api.EvHold, Client: 1, Seq: 1, Job: 1})},
		{nil, append(log(t, 3, pass(1)), log(t, 2, pass(2))...)},
		{framed(put), log(t, 3, pass(1))}, {nil, log(t, 3, lead(4), pass(1))},
		{nil, append(log(t, 1, pass(1)), append(framed([]byte{9}), log(t, 1, pass(2))...)...)},
	} {
		if tab, end, epoch, e := journal.Replay(f, c.snap, c.log); tab != nil || end != 0 || epoch != 0 || e != api.ErrBroken {
			t.Error(i, end, epoch, e)
		}
	}
	if tab, end, epoch, e := journal.Replay(nil, nil, log(t, 1, pass(1))); tab != nil || end != 0 || epoch != 0 || e != api.ErrArg {
		t.Error(end, epoch, e)
	}
}

func TestEvents(t *testing.T) {
	events := []api.Event{lead(2), submit(1), pass(1)}
	same := func(b []byte, many int) {
		t.Helper()
		got := journal.Events(b)
		if len(got) != many {
			t.Fatal(got)
		}
		for i, e := range got {
			if !bytes.Equal(event.Put(nil, e), event.Put(nil, events[i])) {
				t.Error(e)
			}
		}
	}
	whole := log(t, 2, events...)
	same(nil, 0)
	same(whole, 3)
	same(whole[:len(whole)-2], 2)
	same(append(log(t, 9, events[0]), log(t, 1, events[1:]...)...), 3) // neither epochs nor the table are looked at
	same(append(log(t, 2, events[:2]...), append(framed([]byte{7}), log(t, 2, events[2])...)...), 2)
}

// P16.3

func TestOpen(t *testing.T) {
	f := machines(t)
	d := led(3, 9999)
	whole := log(t, 2, lead(2), back(0, 0), pass(1))
	d.Append(3, 0, append(bytes.Clone(whole), 7, 7, 7))
	for _, c := range []struct {
		d     *disk.Disk
		epoch int
		f     *fleet.Fleet
		want  api.Errno
	}{{nil, 3, f, api.ErrArg}, {d, 3, nil, api.ErrArg}, {d, 2, f, api.ErrFenced}, {d, 4, f, api.ErrFenced}} {
		if j, tab, e := journal.Open(c.d, c.epoch, c.f); j != nil || tab != nil || e != c.want {
			t.Error(c.epoch, e)
		}
	}
	if len(d.Log()) != len(whole)+3 {
		t.Error("a refused Open chopped the log")
	}
	j, tab, e := journal.Open(d, 3, f)
	if e != api.OK || j.Len() != len(whole) || !bytes.Equal(d.Log(), whole) || !bytes.Equal(tab.Put(), made(t, lead(2), back(0, 0), pass(1)).Put()) {
		t.Fatal(e)
	}
	for _, epoch := range []int{0, 1, 2, 4, 5} {
		if j, tab, e := journal.Open(d, epoch, f); j != nil || tab != nil || e != api.ErrFenced {
			t.Error("nothing to chop", epoch, e)
		}
	}
	if j, tab, e = journal.Open(led(1, 99), 1, f); e != api.OK || j.Len() != 0 || tab.Tick() != -1 {
		t.Error(e)
	}
}

func TestOpenOfWhatIsBroken(t *testing.T) {
	f := machines(t)
	d := led(3, 9999)
	d.Append(3, 0, append(log(t, 3, pass(1), pass(1)), 9))
	if j, tab, e := journal.Open(d, 3, f); j != nil || tab != nil || e != api.ErrBroken {
		t.Error(e)
	}
	d = led(3, 9999)
	d.Append(3, 0, append(log(t, 4, pass(1)), 9))
	if j, tab, e := journal.Open(d, 3, f); j != nil || tab != nil || e != api.ErrFenced {
		t.Error(e)
	}
	if len(d.Log()) != len(log(t, 4, pass(1)))+1 {
		t.Error("chopped")
	}
}

func TestWrite(t *testing.T) {
	f := machines(t)
	d := led(3, 60)
	j, _, _ := journal.Open(d, 3, f)
	size := len(log(t, 3, lead(3)))
	for _, c := range []struct {
		e    api.Event
		want api.Errno
		end  int
	}{
		{pass(-1), api.ErrEvent, 0}, {lead(2), api.ErrArg, 0}, {lead(4), api.ErrArg, 0}, {lead(0), api.ErrEvent, 0},
		{lead(3), api.OK, size}, {submit(1), api.ErrRoom, size}, {pass(1), api.OK, size + 11},
	} {
		if e := j.Write(c.e); e != c.want || j.Len() != c.end || len(d.Log()) != c.end {
			t.Error(c, e, j.Len())
		}
	}
	if !bytes.Equal(d.Log(), log(t, 3, lead(3), pass(1))) {
		t.Error(d.Log())
	}
	d.Cut(2)
	if e := j.Write(pass(2)); e != api.ErrCut || j.Len() != size+11 {
		t.Error(e, j.Len())
	}
	if e := j.Write(pass(2)); e != api.ErrGap {
		t.Error(e)
	}
	d.Swap(d.Claim(), api.Claim{Epoch: 4})
	if e := j.Write(pass(2)); e != api.ErrFenced {
		t.Error(e)
	}
	if j, _, e := journal.Open(led(0, 99), 0, f); e != api.OK || j.Write(pass(1)) != api.ErrArg {
		t.Error("epoch 0 writes")
	}
}

func TestCompact(t *testing.T) {
	f := machines(t)
	d := led(3, 9999)
	j, tab, _ := journal.Open(d, 3, f)
	write := func(e api.Event) {
		t.Helper()
		if err := j.Write(e); err != api.OK {
			t.Fatal(err)
		}
		tab.Apply(e)
	}
	write(lead(3))
	write(submit(1))
	if e := j.Compact(nil); e != api.ErrArg {
		t.Error(e)
	}
	if e := j.Compact(tab); e != api.OK || j.Len() != 0 || len(d.Log()) != 0 || !bytes.Equal(d.Snap(), framed(tab.Put())) {
		t.Error(e)
	}
	write(pass(1))
	d.Cut(5)
	snap := d.Snap()
	if e := j.Compact(tab); e != api.ErrCut || j.Len() != 11 || !bytes.Equal(d.Snap(), snap) || len(d.Log()) != 11 {
		t.Error(e)
	}
	if _, again, e := journal.Open(d, 3, f); e != api.OK || !bytes.Equal(again.Put(), tab.Put()) {
		t.Error(e)
	}
	d.Swap(d.Claim(), api.Claim{Epoch: 4})
	if e := j.Compact(tab); e != api.ErrFenced {
		t.Error(e)
	}
	small := led(1, 20)
	j, tab, _ = journal.Open(small, 1, f)
	tab.Apply(submit(1))
	if e := j.Compact(tab); e != api.ErrRoom || len(small.Snap()) != 0 {
		t.Error(e)
	}
}

// P16.4

func TestNil(t *testing.T) {
	var j *journal.Journal
	if j.Write(pass(1)) != api.ErrArg || j.Compact(made(t)) != api.ErrArg || j.Compact(nil) != api.ErrArg || j.Len() != 0 {
		t.Error("nil journal")
	}
}

// P16.5

func TestNothingWrittenIsLost(t *testing.T) {
	f := machines(t)
	for seed := range int64(40) {
		rnd := rand.New(rand.NewSource(seed))
		d := disk.New(3000)
		tick, seq, epoch := 0, 0, 0
		sure := table.New(f) // the table of all that was written
		for range 12 {
			epoch += 1 + rnd.Intn(2)
			d.Swap(d.Claim(), api.Claim{Epoch: epoch})
			j, tab, e := journal.Open(d, epoch, f)
			if e != api.OK || !bytes.Equal(tab.Put(), sure.Put()) {
				t.Fatal("lost", e)
			}
			for range rnd.Intn(30) {
				tick++
				seq++
				ev := []api.Event{pass(tick), submit(seq), lead(epoch), back(rnd.Intn(2), tick), {Kind: api.EvLost, Node: rnd.Intn(2), Tick: tick}}[rnd.Intn(5)]
				if tab.Would(ev) != api.OK {
					continue
				}
				if rnd.Intn(25) == 0 {
					d.Cut(rnd.Intn(80))
				}
				if rnd.Intn(20) == 0 && j.Compact(tab) == api.ErrCut {
					break
				}
				ahead := d.Log()
				e := j.Write(ev)
				if e == api.OK {
					tab.Apply(ev)
					continue
				}
				if e == api.ErrCut && len(d.Log()) == len(ahead)+len(log(t, epoch, ev)) {
					tab.Apply(ev) // all of it was written, though the writer never heard so
				}
				break
			}
			sure = tab
		}
		end := len(d.Log())
		whole := journal.Events(d.Log())
		cut := rnd.Intn(end + 1)
		prefix := journal.Events(d.Log()[:cut])
		tab, _, _, e := journal.Replay(f, d.Snap(), d.Log()[:cut])
		if e != api.OK || len(prefix) > len(whole) {
			t.Fatal(e)
		}
		by, _, _, _ := journal.Replay(f, d.Snap(), nil)
		for i, ev := range prefix {
			if !bytes.Equal(event.Put(nil, ev), event.Put(nil, whole[i])) {
				t.Fatal("not a prefix")
			}
			by.Apply(ev)
		}
		if !bytes.Equal(by.Put(), tab.Put()) {
			t.Fatal("a truncated log is another table")
		}
	}
}
