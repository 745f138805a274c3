package disk_test

import (
	"bytes"
	"math"
	"math/rand"
	"testing"

	"corvee/api"
	"corvee/disk"
	"corvee/frame"
)

var first = api.Claim{Epoch: 1, Who: 7, Until: 40}

// led is a disk of epoch 1.
func led(t *testing.T, room int) *disk.Disk {
	t.Helper()
	d := disk.New(room)
	if e := d.Swap(api.Claim{}, first); e != api.OK {
		t.Fatal(e)
	}
	return d
}

func appended(t *testing.T, d *disk.Disk, epoch, at int, s string, end int, want api.Errno) {
	t.Helper()
	if n, e := d.Append(epoch, at, []byte(s)); n != end || e != want {
		t.Errorf("Append %d %d %q: %d %v", epoch, at, s, n, e)
	}
}

func holds(t *testing.T, d *disk.Disk, log, snap string) {
	t.Helper()
	if string(d.Log()) != log || string(d.Snap()) != snap {
		t.Errorf("%q %q, not %q %q", d.Log(), d.Snap(), log, snap)
	}
}

// P15.1

func TestNew(t *testing.T) {
	for room, want := range map[int]int{9: 9, 0: 0, -1: 0, math.MinInt: 0, api.MaxDisk: api.MaxDisk, api.MaxDisk + 1: api.MaxDisk, math.MaxInt: api.MaxDisk} {
		d := disk.New(room)
		if d.Room() != want || d.Claim() != (api.Claim{}) {
			t.Error(room, d.Room(), d.Claim())
		}
		holds(t, d, "", "")
	}
}

func TestResultsAreNewMemory(t *testing.T) {
	d := led(t, 99)
	b := []byte("abc")
	d.Append(1, 0, b)
	b[0] = 'z'
	d.Log()[1] = 'z'
	d.Stage(1, b)
	b[1] = 'z'
	d.Commit(1, frame.Sum([]byte("zbc")), 0)
	d.Snap()[0] = 'y'
	holds(t, d, "abc", "zbc")
}

// P15.2

func TestSwap(t *testing.T) {
	d := led(t, 9)
	second := api.Claim{Epoch: 2, Who: 1, Until: 80}
	for _, c := range []struct {
		old, now api.Claim
		want     api.Errno
	}{
		{first, api.Claim{Epoch: 0, Who: 7, Until: 90}, api.ErrArg},
		{api.Claim{Epoch: 3}, second, api.ErrArg},
		{first, api.Claim{Epoch: 1<<40 + 1}, api.ErrArg},
		{api.Claim{}, second, api.ErrFenced},
		{api.Claim{Epoch: 1, Who: 7, Until: 41}, second, api.ErrFenced},
		{api.Claim{Epoch: 1, Who: 8, Until: 40}, second, api.ErrFenced},
		{first, first, api.OK},
		{first, second, api.OK},
		{first, second, api.ErrFenced},
		{second, api.Claim{Epoch: 1 << 40, Who: -1, Until: math.MinInt}, api.OK},
	} {
		ahead := d.Claim()
		if e := d.Swap(c.old, c.now); e != c.want {
			t.Error(c, e)
		}
		want := ahead
		if c.want == api.OK {
			want = c.now
		}
		if d.Claim() != want {
			t.Error(c, d.Claim())
		}
	}
}

// P15.3

func TestAppend(t *testing.T) {
	d := led(t, 9)
	appended(t, d, 1, 0, "abc", 3, api.OK)
	appended(t, d, 0, 3, "d", 0, api.ErrFenced)
	appended(t, d, 2, 2, "d", 0, api.ErrFenced)
	appended(t, d, 1, 2, "d", 0, api.ErrGap)
	appended(t, d, 1, 4, "sevenxx", 0, api.ErrGap)
	appended(t, d, 1, -1, "", 0, api.ErrGap)
	appended(t, d, 1, 3, "sevenxx", 0, api.ErrRoom)
	holds(t, d, "abc", "")
	d.Cut(1)
	appended(t, d, 1, 3, "de", 0, api.ErrCut)
	holds(t, d, "abcd", "")
	appended(t, d, 1, 3, "e", 0, api.ErrGap)
	appended(t, d, 1, 4, "", 4, api.OK)
	appended(t, d, 1, 4, "efghi", 9, api.OK)
	appended(t, d, 1, 9, "", 9, api.OK)
	appended(t, d, 1, 9, "j", 0, api.ErrRoom)
	holds(t, d, "abcdefghi", "")
}

func TestChop(t *testing.T) {
	d := led(t, 9)
	appended(t, d, 1, 0, "abcdef", 6, api.OK)
	for _, c := range []struct {
		epoch, to int
		want      api.Errno
		log       string
	}{{0, 3, api.ErrFenced, "abcdef"}, {2, -1, api.ErrFenced, "abcdef"}, {1, -1, api.ErrGap, "abcdef"}, {1, 7, api.ErrGap, "abcdef"}, {1, 6, api.OK, "abcdef"}, {1, 4, api.OK, "abcd"}, {1, 0, api.OK, ""}} {
		if e := d.Chop(c.epoch, c.to); e != c.want {
			t.Error(c, e)
		}
		holds(t, d, c.log, "")
	}
	appended(t, d, 1, 0, "x", 1, api.OK)
}

func TestStageAndCommit(t *testing.T) {
	d := led(t, 5)
	appended(t, d, 1, 0, "abcde", 5, api.OK)
	sum := func(s string) uint32 { return frame.Sum([]byte(s)) }
	stage := func(epoch int, s string, want api.Errno) {
		t.Helper()
		if e := d.Stage(epoch, []byte(s)); e != want {
			t.Error(s, e)
		}
		holds(t, d, string(d.Log()), string(d.Snap()))
	}
	commit := func(epoch int, s string, from int, want api.Errno) {
		t.Helper()
		if e := d.Commit(epoch, sum(s), from); e != want {
			t.Error(s, e)
		}
	}
	stage(0, "123456", api.ErrFenced)
	stage(1, "123456", api.ErrRoom)
	stage(1, "first", api.OK)
	stage(1, "toolong", api.ErrRoom)
	stage(0, "x", api.ErrFenced)
	holds(t, d, "abcde", "")
	commit(0, "first", 9, api.ErrFenced)
	commit(1, "other", 9, api.ErrSum)
	commit(1, "first", 6, api.ErrGap)
	commit(1, "first", -1, api.ErrGap)
	holds(t, d, "abcde", "")
	commit(1, "first", 3, api.OK)
	holds(t, d, "de", "first")
	commit(1, "first", 0, api.ErrSum) // nothing is staged any more
	stage(1, "a", api.OK)
	stage(1, "b", api.OK)
	commit(1, "a", 0, api.ErrSum)
	commit(1, "b", 2, api.OK)
	holds(t, d, "", "b")
	commit(1, "", 0, api.OK) // the sum of nothing is that of what is staged
	holds(t, d, "", "")
}

func TestCuts(t *testing.T) {
	for _, c := range []struct {
		cut  int
		want string
	}{{-1, ""}, {math.MinInt, ""}, {0, ""}, {1, "x"}, {2, "xy"}, {3, "xyz"}, {4, "xyz"}, {math.MaxInt, "xyz"}} {
		d := led(t, 9)
		appended(t, d, 1, 0, "ab", 2, api.OK)
		d.Cut(7)
		d.Cut(c.cut)
		appended(t, d, 0, 2, "x", 0, api.ErrFenced) // a write with another error leaves the cut armed
		appended(t, d, 1, 1, "x", 0, api.ErrGap)
		appended(t, d, 1, 2, "12345678", 0, api.ErrRoom)
		d.Chop(1, 2)
		appended(t, d, 1, 2, "xyz", 0, api.ErrCut)
		holds(t, d, "ab"+c.want, "")
		appended(t, d, 1, 2+len(c.want), "!", 3+len(c.want), api.OK)
		d.Stage(1, []byte("old"))
		d.Cut(c.cut)
		if e := d.Stage(1, []byte("xyz")); e != api.ErrCut {
			t.Error(e)
		}
		if e := d.Commit(1, frame.Sum([]byte(c.want)), 0); e != api.OK {
			t.Error("what was staged in part", e)
		}
		holds(t, d, "ab"+c.want+"!", c.want)
	}
}

// P15.4

func TestNil(t *testing.T) {
	var d *disk.Disk
	n, e := d.Append(0, 0, nil)
	d.Cut(3)
	if n != 0 || e != api.ErrArg || d.Claim() != (api.Claim{}) || d.Swap(api.Claim{}, api.Claim{}) != api.ErrArg || d.Chop(0, 0) != api.ErrArg || d.Stage(0, nil) != api.ErrArg ||
		d.Commit(0, 0, 0) != api.ErrArg || len(d.Log()) != 0 || len(d.Snap()) != 0 || d.Room() != 0 {
		t.Error("nil disk")
	}
}

// P15.5

func TestFencing(t *testing.T) {
	rnd := rand.New(rand.NewSource(1))
	d := led(t, 200)
	for range 3000 {
		epoch := d.Claim().Epoch
		other := epoch + []int{-1, 1, 5, -3}[rnd.Intn(4)]
		log, snap := d.Log(), d.Snap()
		b := make([]byte, rnd.Intn(9))
		rnd.Read(b)
		_, e1 := d.Append(other, len(log), b)
		if e1 != api.ErrFenced || d.Chop(other, 0) != api.ErrFenced || d.Stage(other, b) != api.ErrFenced || d.Commit(other, 0, 0) != api.ErrFenced {
			t.Fatal("another epoch wrote")
		}
		if !bytes.Equal(d.Log(), log) || !bytes.Equal(d.Snap(), snap) {
			t.Fatal("another epoch changed something")
		}
		switch rnd.Intn(4) {
		case 0:
			d.Swap(d.Claim(), api.Claim{Epoch: epoch + rnd.Intn(4) - 1, Until: rnd.Intn(9)})
		case 1:
			d.Stage(epoch, b)
		case 2:
			d.Cut(rnd.Intn(4))
		}
		d.Append(epoch, len(log), b)
		if d.Claim().Epoch < epoch || !bytes.HasPrefix(d.Log(), log) {
			t.Fatal("the epoch decreased, or the log lost something")
		}
	}
}
