package order_test

import (
	"math"
	"math/rand"
	"slices"
	"testing"

	"corvee/api"
	"corvee/order"
	"corvee/share"
)

func want(id int, user string, prio int, need ...int) api.Want {
	w := api.Want{Id: id, User: user, Prio: prio}
	copy(w.Need[:], need)
	return w
}

// P11.1

func TestPlus(t *testing.T) {
	const top = 1 << 60
	for _, c := range []struct{ a, b, want api.Vec }{
		{api.Vec{1, 2, 3, 4}, api.Vec{4, 3, 2, 1}, api.Vec{5, 5, 5, 5}},
		{api.Vec{-1, math.MinInt, 5, -3}, api.Vec{4, 7, -9, -1}, api.Vec{4, 7, 5, 0}},
		{api.Vec{top, top - 1, top - 1, math.MaxInt}, api.Vec{top, 1, 2, math.MaxInt}, api.Vec{top, top, top, top}},
		{api.Vec{math.MaxInt, top + 1}, api.Vec{-1, math.MinInt}, api.Vec{top, top}},
	} {
		if got := order.Plus(c.a, c.b); got != c.want || order.Plus(c.b, c.a) != c.want {
			t.Error(c, got)
		}
	}
}

// P11.2

func TestTurns(t *testing.T) {
	whole := api.Vec{4, 4, 0, 0}
	ana := []api.Use{{User: "ana", Has: api.Vec{1}}}
	three := []api.Want{want(1, "ana", 0, 1), want(2, "bob", 0, 1), want(3, "bob", 0, 2)}
	for _, c := range []struct {
		name  string
		whole api.Vec
		has   []api.Use
		jobs  []api.Want
		want  []int
	}{
		{"no jobs", whole, ana, nil, nil},
		{"one has something", whole, ana, three, []int{1, 0, 2}},
		{"nobody has anything", whole, nil, three, []int{0, 1, 2}},
		{"greater prio first", whole, nil, []api.Want{want(1, "a", 0, 1), want(2, "a", 7, 1), want(3, "a", -1, 1), want(4, "a", 7, 1)}, []int{1, 3, 0, 2}},
		{"lesser id first", whole, nil, []api.Want{want(9, "a", 0, 1), want(2, "a", 0, 1), want(2, "a", 0, 3), want(-5, "a", 0, 1)}, []int{3, 1, 2, 0}},
		{"prio counts within a user only", whole, nil, []api.Want{want(1, "a", 0, 1), want(2, "b", 100, 1)}, []int{0, 1}},
		{"names in byte order", whole, nil, []api.Want{want(1, "b", 0), want(2, "B", 0), want(3, "", 0), want(4, "é", 0)}, []int{2, 1, 0, 3}},
		{"nothing needed: the share stays", whole, nil, []api.Want{want(1, "a", 0), want(2, "b", 0), want(3, "a", 0)}, []int{0, 2, 1}},
		{"sum of what a user has", whole, []api.Use{{User: "a", Has: api.Vec{1}}, {User: "b", Has: api.Vec{0, 2}}, {User: "a", Has: api.Vec{2}}}, []api.Want{want(1, "a", 0, 1), want(2, "b", 0, 0, 1), want(3, "b", 0, 0, 1)}, []int{1, 0, 2}},
		{"a resource that there isn't", whole, []api.Use{{User: "a", Has: api.Vec{0, 0, 1}}}, []api.Want{want(1, "a", 0, 1), want(2, "b", 0, 4), want(3, "b", 0, 9)}, []int{1, 2, 0}},
		{"below nothing counts as nothing", whole, []api.Use{{User: "b", Has: api.Vec{-9}}, {User: "b", Has: api.Vec{1}}}, []api.Want{want(1, "a", 0, -5), want(2, "b", 0, 1), want(3, "a", 0, 1)}, []int{0, 2, 1}},
		{"sums stop to grow", api.Vec{1 << 62}, []api.Use{{User: "a", Has: api.Vec{math.MaxInt}}, {User: "a", Has: api.Vec{math.MaxInt}}, {User: "b", Has: api.Vec{1 << 60}}}, []api.Want{want(1, "b", 0), want(2, "a", 0)}, []int{1, 0}},
	} {
		if got := order.Turns(c.whole, c.has, c.jobs); !slices.Equal(got, c.want) {
			t.Error(c.name, got)
		}
	}
}

// P11.3

func TestFirst(t *testing.T) {
	if i, ok := order.First(api.Vec{1}, nil, nil); i != 0 || ok {
		t.Error(i, ok)
	}
	if i, ok := order.First(api.Vec{4}, []api.Use{{User: "a", Has: api.Vec{1}}}, []api.Want{want(1, "a", 9, 1), want(2, "b", 0, 1)}); i != 1 || !ok {
		t.Error(i, ok)
	}
}

// P11.4

func naive(whole api.Vec, has []api.Use, jobs []api.Want) []int {
	used := map[string]api.Vec{}
	for _, u := range has {
		used[u.User] = order.Plus(used[u.User], u.Has)
	}
	var turns []int
	for len(turns) < len(jobs) {
		best := -1
		better := func(i, j int) bool {
			a, _ := share.Dominant(used[jobs[i].User], whole)
			b, _ := share.Dominant(used[jobs[j].User], whole)
			if c := share.Compare(a, b); c != 0 {
				return c < 0
			}
			if jobs[i].User != jobs[j].User {
				return jobs[i].User < jobs[j].User
			}
			if jobs[i].Prio != jobs[j].Prio {
				return jobs[i].Prio > jobs[j].Prio
			}
			return jobs[i].Id < jobs[j].Id
		}
		for i := range jobs {
			if !slices.Contains(turns, i) && (best < 0 || better(i, best)) {
				best = i
			}
		}
		turns = append(turns, best)
		used[jobs[best].User] = order.Plus(used[jobs[best].User], jobs[best].Need)
	}
	return turns
}

func TestAgainstEachTurnByItself(t *testing.T) {
	rnd := rand.New(rand.NewSource(1))
	user := func() string { return string(rune('a' + rnd.Intn(3))) }
	for range 500 {
		whole := api.Vec{rnd.Intn(5), rnd.Intn(5)}
		var has []api.Use
		for range rnd.Intn(4) {
			has = append(has, api.Use{User: user(), Has: api.Vec{rnd.Intn(3), rnd.Intn(3)}})
		}
		var jobs []api.Want
		for range rnd.Intn(9) {
			jobs = append(jobs, want(rnd.Intn(5), user(), rnd.Intn(2), rnd.Intn(3), rnd.Intn(3)))
		}
		kept, keptHas := slices.Clone(jobs), slices.Clone(has)
		turns := order.Turns(whole, has, jobs)
		if !slices.Equal(turns, naive(whole, has, jobs)) {
			t.Fatal(whole, has, jobs, turns)
		}
		if first, ok := order.First(whole, has, jobs); ok != (len(jobs) > 0) || ok && first != turns[0] {
			t.Fatal(first, ok)
		}
		if !slices.Equal(jobs, kept) || !slices.Equal(has, keptHas) {
			t.Fatal("changed its arguments")
		}
		rnd.Shuffle(len(has), func(i, j int) { has[i], has[j] = has[j], has[i] })
		if !slices.Equal(order.Turns(whole, has, jobs), turns) {
			t.Fatal("hangs on the order of has")
		}
	}
}
