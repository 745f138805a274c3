package lease_test

import (
	"math"
	"math/rand"
	"testing"

	"corvee/api"
	"corvee/disk"
	"corvee/lease"
)

func claim(epoch, who, until int) api.Claim {
	return api.Claim{Epoch: epoch, Who: who, Until: until}
}

// with is a disk with a claim.
func with(c api.Claim) *disk.Disk {
	d := disk.New(9)
	d.Swap(api.Claim{}, c)
	return d
}

// P17.1

func TestTake(t *testing.T) {
	d := disk.New(9)
	for _, c := range []struct {
		who, now int
		want     api.Claim
		e        api.Errno
	}{
		{-1, 0, api.Claim{}, api.ErrArg}, {1, -1, api.Claim{}, api.ErrArg}, {1, api.MaxTick, api.Claim{}, api.ErrArg}, {math.MinInt, math.MaxInt, api.Claim{}, api.ErrArg},
		{1, 0, claim(1, 1, 40), api.OK}, {2, 0, api.Claim{}, api.ErrHeld}, {2, 41, api.Claim{}, api.ErrHeld}, {2, 42, claim(2, 2, 82), api.OK},
		{2, 42, claim(3, 2, 82), api.OK}, {2, 50, claim(4, 2, 90), api.OK}, {1, 91, api.Claim{}, api.ErrHeld}, {0, 92, claim(5, 0, 132), api.OK},
		{0, api.MaxTick - 1, claim(6, 0, api.MaxTick+39), api.OK}, {1, api.MaxTick - 1, api.Claim{}, api.ErrHeld},
	} {
		ahead := d.Claim()
		got, e := lease.Take(d, c.who, c.now)
		if got != c.want || e != c.e {
			t.Error(c, got, e)
		}
		if e == api.OK {
			ahead = got
		}
		if d.Claim() != ahead {
			t.Error("the disk's claim", d.Claim())
		}
	}
	if c, e := lease.Take(nil, 1, 1); c != (api.Claim{}) || e != api.ErrArg {
		t.Error(c, e)
	}
}

func TestTakeOfStrangeClaims(t *testing.T) {
	const late = api.MaxTick - 1
	for _, c := range []struct {
		old      api.Claim
		who, now int
		want     api.Claim
		e        api.Errno
	}{
		{claim(0, 5, math.MaxInt), 1, 3, claim(1, 1, 43), api.OK},
		{claim(3, 5, math.MaxInt), 1, 3, api.Claim{}, api.ErrHeld}, {claim(3, 5, math.MaxInt-1), 1, late, api.Claim{}, api.ErrHeld}, {claim(3, 5, 1<<41+1), 1, late, api.Claim{}, api.ErrHeld},
		{claim(3, 5, math.MaxInt), 5, 3, claim(4, 5, 43), api.OK}, {claim(3, 5, math.MinInt), 1, 0, claim(4, 1, 40), api.OK},
		{claim(3, 5, -2), 1, 0, claim(4, 1, 40), api.OK}, {claim(3, 5, -1), 1, 0, api.Claim{}, api.ErrHeld},
		{claim(1<<40, 5, 10), 1, 11, api.Claim{}, api.ErrHeld}, {claim(1<<40, 5, 10), 1, 12, api.Claim{}, api.ErrLimit}, {claim(1<<40, 5, 10), 5, 0, api.Claim{}, api.ErrLimit},
		{claim(1<<40-1, 5, 10), 5, 0, claim(1<<40, 5, 40), api.OK},
	} {
		d := with(c.old)
		if got, e := lease.Take(d, c.who, c.now); got != c.want || e != c.e {
			t.Error(c, got, e)
		}
	}
}

// P17.2

func TestRenew(t *testing.T) {
	mine := claim(2, 1, 50)
	for _, c := range []struct {
		d    *disk.Disk
		c    api.Claim
		now  int
		want api.Claim
		e    api.Errno
	}{
		{nil, mine, 20, api.Claim{}, api.ErrArg}, {with(mine), mine, -1, api.Claim{}, api.ErrArg}, {with(mine), mine, api.MaxTick, api.Claim{}, api.ErrArg},
		{with(mine), mine, 20, claim(2, 1, 60), api.OK}, {with(mine), mine, 5, mine, api.OK}, {with(mine), mine, 49, claim(2, 1, 89), api.OK}, {with(mine), mine, 50, api.Claim{}, api.ErrLapse},
		{with(claim(0, 1, 50)), claim(0, 1, 50), 20, api.Claim{}, api.ErrLapse}, {with(mine), claim(-1, 1, 50), 20, api.Claim{}, api.ErrLapse},
		{with(claim(3, 1, 50)), mine, 20, api.Claim{}, api.ErrFenced}, {with(claim(2, 1, 51)), mine, 20, api.Claim{}, api.ErrFenced},
		{with(mine), claim(1<<40+1, 1, 50), 20, api.Claim{}, api.ErrArg},
	} {
		ahead := c.d.Claim()
		got, e := lease.Renew(c.d, c.c, c.now)
		if got != c.want || e != c.e {
			t.Error(c, got, e)
		}
		if e == api.OK && c.d.Claim() != c.want || e != api.OK && c.d.Claim() != ahead {
			t.Error(c, c.d.Claim())
		}
	}
}

func TestLeads(t *testing.T) {
	for _, c := range []struct {
		c    api.Claim
		now  int
		want bool
	}{
		{claim(1, 0, 40), 39, true}, {claim(1, 0, 40), 40, false}, {claim(0, 0, 40), 3, false}, {claim(-1, 0, 40), 3, false}, {claim(1, 0, 40), -7, true}, {claim(1, 0, math.MaxInt), math.MaxInt, false}, {claim(1, 0, math.MinInt), math.MinInt, false},
	} {
		if lease.Leads(c.c, c.now) != c.want {
			t.Error(c)
		}
	}
}

// P17.3

func TestKeeper(t *testing.T) {
	k := lease.NewKeeper(2, 5)
	if k.Lost(0, 28) || !k.Lost(0, 29) || !k.Lost(1, math.MaxInt) || k.Lost(2, 99) || k.Lost(-1, 99) || k.Until(0) != 29 || k.Until(2) != 0 || k.Until(-1) != 0 {
		t.Error("a fresh keeper")
	}
	for _, c := range []struct {
		node, now, want int
		ok              bool
	}{
		{0, 10, 34, true}, {2, 10, 0, false}, {-1, 10, 0, false}, {0, -1, 0, false}, {0, api.MaxTick, 0, false}, {0, 7, 31, true}, {1, api.MaxTick - 1, api.MaxTick + 23, true},
	} {
		if until, ok := k.Grant(c.node, c.now); until != c.want || ok != c.ok {
			t.Error(c, until, ok)
		}
	}
	if k.Lost(0, 33) || !k.Lost(0, 34) || k.Until(0) != 34 || k.Until(1) != api.MaxTick+23 {
		t.Error(k.Until(0), k.Until(1))
	}
	for _, c := range []struct{ nodes, now int }{{-1, 0}, {17, 0}, {1, -1}, {1, api.MaxTick}} {
		if lease.NewKeeper(c.nodes, c.now) != nil {
			t.Error(c)
		}
	}
	if k := lease.NewKeeper(16, api.MaxTick-1); k.Until(15) != api.MaxTick+23 || k.Until(16) != 0 {
		t.Error(k.Until(15))
	}
	if k := lease.NewKeeper(0, 0); k == nil || k.Lost(0, 99) {
		t.Error("no nodes")
	}
}

// P17.4

func TestNil(t *testing.T) {
	var k *lease.Keeper
	until, ok := k.Grant(0, 1)
	if until != 0 || ok || k.Until(0) != 0 || k.Lost(0, 99) {
		t.Error("nil keeper")
	}
}

// P17.5

func TestOneLeadsAtATime(t *testing.T) {
	for seed := range int64(30) {
		rnd := rand.New(rand.NewSource(seed))
		d := disk.New(9)
		claims, last, ended := [3]api.Claim{}, 0, -1
		for now := 0; now < 2000; now += rnd.Intn(9) {
			who := rnd.Intn(3)
			if lease.Leads(claims[who], now) && rnd.Intn(3) > 0 {
				if c, e := lease.Renew(d, claims[who], now); e == api.OK {
					claims[who] = c
				}
			} else if c, e := lease.Take(d, who, now); e == api.OK {
				if c.Epoch <= last {
					t.Fatal("the epoch did not increase")
				}
				for other, held := range claims {
					if other != who && held.Until > ended {
						ended = held.Until
					}
				}
				if ended > 0 && now < ended+api.Guard {
					t.Fatal("taken too early", now, ended)
				}
				last, claims[who], ended = c.Epoch, c, -1
			}
			leaders := 0
			for _, c := range claims {
				if lease.Leads(c, now) {
					leaders++
				}
			}
			if leaders > 1 {
				t.Fatal("two lead", now, claims)
			}
		}
	}
}
