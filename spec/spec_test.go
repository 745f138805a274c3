package spec_test

import (
	"math/rand"
	"reflect"
	"strings"
	"testing"

	"corvee/api"
	"corvee/fleet"
	"corvee/spec"
)

const plain = "user=ana part=main nodes=2 demand=1,0,0,0 wall=10"

func ana() api.Spec {
	return api.Spec{User: "ana", Part: "main", Nodes: 2, Demand: api.Vec{1}, Wall: 10, Array: 1}
}

// with is ana's spec with one thing changed.
func with(f func(s *api.Spec)) api.Spec {
	s := ana()
	f(&s)
	return s
}

func full() api.Spec {
	return api.Spec{User: "b-9", Part: "gpu", Nodes: 16, Demand: api.Vec{0, 0, 0, api.MaxRes}, Wall: 1000, Prio: 100, Array: 20, Retries: 5, Held: true, After: []int{3, -1, 1 << 40, -8, 1}}
}

const fullText = "user=b-9 part=gpu nodes=16 demand=0,0,0,1073741824 wall=1000 prio=100 array=20 retries=5 held=1 after=3,-1,1099511627776,-8,1"

// P8.1

func TestCheck(t *testing.T) {
	for _, s := range []api.Spec{
		ana(), full(),
		with(func(s *api.Spec) { s.After = []int{1, 2, 3, 4, 5, 6, 7, 8} }),
		with(func(s *api.Spec) { s.After = []int{} }),
		with(func(s *api.Spec) { s.Wall = 1 }),
	} {
		if e := spec.Check(s); e != api.OK {
			t.Error(s, e)
		}
	}
	for i, f := range []func(s *api.Spec){
		func(s *api.Spec) { s.User = "" }, func(s *api.Spec) { s.User = "Ana" }, func(s *api.Spec) { s.Part = "a b" }, func(s *api.Spec) { s.Part = strings.Repeat("a", 17) },
		func(s *api.Spec) { s.Nodes = 0 }, func(s *api.Spec) { s.Nodes = 17 },
		func(s *api.Spec) { s.Demand = api.Vec{} }, func(s *api.Spec) { s.Demand[3] = -1 }, func(s *api.Spec) { s.Demand[0] = api.MaxRes + 1 },
		func(s *api.Spec) { s.Wall = 0 }, func(s *api.Spec) { s.Wall = 1001 },
		func(s *api.Spec) { s.Prio = -1 }, func(s *api.Spec) { s.Prio = 101 },
		func(s *api.Spec) { s.Array = 0 }, func(s *api.Spec) { s.Array = 21 },
		func(s *api.Spec) { s.Retries = -1 }, func(s *api.Spec) { s.Retries = 6 },
		func(s *api.Spec) { s.After = []int{1, 2, 3, 4, 5, 6, 7, 8, 9} }, func(s *api.Spec) { s.After = []int{0} }, func(s *api.Spec) { s.After = []int{2, 1, 2} },
		func(s *api.Spec) { s.After = []int{-9} }, func(s *api.Spec) { s.After = []int{1<<40 + 1} },
	} {
		s := with(f)
		if e := spec.Check(s); e != api.ErrField || spec.Text(s) != "" || spec.Expand(s) != nil || spec.Need(s) != (api.Vec{}) || spec.Suits(nil, s) != api.ErrField {
			t.Error(i, s, e)
		}
	}
}

func TestText(t *testing.T) {
	if s := spec.Text(ana()); s != plain {
		t.Error(s)
	}
	if s := spec.Text(full()); s != fullText {
		t.Error(s)
	}
	if s := spec.Text(with(func(s *api.Spec) { s.Held, s.Array = true, 2 })); s != plain+" array=2 held=1" {
		t.Error(s)
	}
}

// P8.2

func TestParse(t *testing.T) {
	for text, want := range map[string]api.Spec{
		plain:    ana(),
		fullText: full(),
		"wall=10 demand=1,0,0,0 nodes=2 part=main user=ana":   ana(),
		plain + " prio=0 array=1 retries=0":                   ana(),
		"after=-1,2 " + plain:                                 with(func(s *api.Spec) { s.After = []int{-1, 2} }),
		plain + " after=1,2,3,4,5,6,7,8":                      with(func(s *api.Spec) { s.After = []int{1, 2, 3, 4, 5, 6, 7, 8} }),
		"user=- part=- nodes=1 demand=1,0,0,0 wall=1 held=1":  {User: "-", Part: "-", Nodes: 1, Demand: api.Vec{1}, Wall: 1, Array: 1, Held: true},
		"retries=3 prio=7 " + plain + " held=1 array=20":      with(func(s *api.Spec) { s.Retries, s.Prio, s.Held, s.Array = 3, 7, true, 20 }),
		"user=ana part=main nodes=2 demand=1,0,0,0 wall=1000": with(func(s *api.Spec) { s.Wall = 1000 }),
	} {
		got, e, at := spec.Parse(text)
		if !reflect.DeepEqual(got, want) || e != api.OK || at != 0 {
			t.Errorf("%q: %v %v %v", text, got, e, at)
		}
	}
}

func TestParseErrors(t *testing.T) {
	for _, c := range []struct {
		text string
		at   int
	}{
		{"", 1}, {" ", 1}, {"user=ana part=main nodes=2 demand=1,0,0,0", 5}, {"user=ana", 2}, {plain[9:], 5},
		{"user=ana part=main nodes=2 wall=10", 5}, {"user=ana part=main demand=1,0,0,0 wall=10", 5}, {"user=ana nodes=2 demand=1,0,0,0 wall=10", 5},
		{plain + " ", 6}, {" " + plain, 1}, {strings.Replace(plain, " ", "  ", 1), 2}, {plain + " held", 6}, {plain + " x=1", 6}, {plain + " =1", 6}, {plain + " User=ana", 6},
		{plain + " user=ana", 6}, {plain + " wall=10", 6}, {plain + " prio=0 prio=0", 7}, {plain + " after=1 after=2", 7}, {plain + " held=1 held=1", 7},
		{"user=Ana part=main", 1}, {"user= part=main", 1}, {"user=a=b part=main", 1}, {"user=ana part=", 2}, {"user=ana part=a_b", 2},
		{"user=ana part=main nodes=0 demand=1,0,0,0 wall=10", 3}, {"user=ana part=main nodes=17 demand=1,0,0,0 wall=10", 3},
		{"user=ana part=main nodes= demand=1,0,0,0 wall=10", 3}, {"user=ana part=main nodes=02 demand=1,0,0,0 wall=10", 3}, {"user=ana part=main nodes=+2 demand=1,0,0,0 wall=10", 3},
		{"demand=0,0,0,0 " + plain, 1}, {"demand=1,0,0 " + plain, 1}, {"demand=01,0,0,0 " + plain, 1}, {"demand=1073741825,0,0,0 " + plain, 1}, {"demand=1,0,0,-1 " + plain, 1},
		{"wall=0", 1}, {"wall=1001", 1}, {"wall=x", 1}, {"wall=00000000000001", 1}, {"wall=99999999999999", 1}, {"wall=18446744073709551617", 1},
		{plain + " prio=101", 6}, {plain + " prio=-1", 6}, {plain + " prio=-0", 6}, {plain + " array=0", 6}, {plain + " array=21", 6}, {plain + " retries=6", 6},
		{plain + " held=0", 6}, {plain + " held=", 6}, {plain + " held=2", 6}, {plain + " held=01", 6},
		{plain + " after=3,-1,3", 6}, {plain + " after=", 6}, {plain + " after=0", 6}, {plain + " after=-0", 6}, {plain + " after=1,", 6}, {plain + " after=,1", 6}, {plain + " after=--1", 6}, {plain + " after=-", 6},
		{plain + " after=-9", 6}, {plain + " after=1099511627777", 6}, {plain + " after=01", 6}, {plain + " after=1,2,3,4,5,6,7,8,9", 6}, {plain + " after=1;2", 6},
		{plain + " bad bad", 6}, {"user=ana nodes=0 bad", 2},
	} {
		got, e, at := spec.Parse(c.text)
		if !reflect.DeepEqual(got, api.Spec{}) || e != api.ErrField || at != c.at {
			t.Errorf("%q: %v %v %v", c.text, got, e, at)
		}
	}
	if _, e, at := spec.Parse(strings.Repeat("x", api.MaxText+1)); e != api.ErrLimit || at != 0 {
		t.Error(e, at)
	}
	if _, e, at := spec.Parse(strings.Repeat("x", api.MaxText)); e != api.ErrField || at != 1 {
		t.Error(e, at)
	}
}

// P8.3

func machines(t *testing.T, text string) *fleet.Fleet {
	t.Helper()
	f, e, at := fleet.Read(text)
	if e != api.OK {
		t.Fatal(e, at)
	}
	return f
}

func TestSuits(t *testing.T) {
	f := machines(t, "a 2,2,0,0 main\nb 1,0,0,0 main\nc 9,9,9,9 other\nd 2,0,0,0 main")
	for _, c := range []struct {
		nodes  int
		demand api.Vec
		part   string
		want   api.Errno
	}{
		{3, api.Vec{1}, "main", api.OK}, {4, api.Vec{1}, "main", api.ErrNever}, {2, api.Vec{2}, "main", api.OK}, {3, api.Vec{2}, "main", api.ErrNever},
		{1, api.Vec{2, 2}, "main", api.OK}, {1, api.Vec{2, 3}, "main", api.ErrNever}, {1, api.Vec{9, 9, 9, 9}, "other", api.OK}, {2, api.Vec{1}, "other", api.ErrNever},
		{1, api.Vec{1}, "none", api.ErrPart}, {1, api.Vec{api.MaxRes}, "none", api.ErrPart}, {0, api.Vec{1}, "none", api.ErrField},
	} {
		s := with(func(s *api.Spec) { s.Nodes, s.Demand, s.Part = c.nodes, c.demand, c.part })
		if e := spec.Suits(f, s); e != c.want {
			t.Error(c, e)
		}
	}
	if e := spec.Suits(nil, ana()); e != api.ErrPart {
		t.Error(e)
	}
}

func TestExpand(t *testing.T) {
	s := with(func(s *api.Spec) { s.Array, s.After, s.Retries = 3, []int{4, 5}, 2 })
	l := spec.Expand(s)
	if len(l) != 3 || s.Array != 3 {
		t.Fatal(l)
	}
	for _, job := range l {
		if want := with(func(s *api.Spec) { s.After, s.Retries = []int{4, 5}, 2 }); !reflect.DeepEqual(job, want) {
			t.Error(job)
		}
	}
	l[0].After[0] = 9
	if l[1].After[0] != 4 || s.After[0] != 4 {
		t.Error("shares memory")
	}
	if l := spec.Expand(ana()); len(l) != 1 {
		t.Error(l)
	}
}

func TestNeed(t *testing.T) {
	if v := spec.Need(with(func(s *api.Spec) { s.Nodes, s.Demand, s.Array = 16, api.Vec{1, 0, api.MaxRes, 3}, 20 })); v != (api.Vec{16, 0, 1 << 34, 48}) {
		t.Error(v)
	}
}

// P8.4

func TestThereAndBack(t *testing.T) {
	rnd := rand.New(rand.NewSource(1))
	f := machines(t, "a 2,2,0,0 main gpu\nb 1,0,0,0 main\nc 9,9,9,9 gpu")
	less := machines(t, "a 2,2,0,0 main gpu\nb 1,0,0,0 main")
	for range 2000 {
		s := api.Spec{User: "u", Part: []string{"main", "gpu", "x"}[rnd.Intn(3)], Nodes: 1 + rnd.Intn(4), Demand: api.Vec{rnd.Intn(3), rnd.Intn(3)}, Wall: 1 + rnd.Intn(1000),
			Prio: rnd.Intn(2), Array: 1 + rnd.Intn(2), Retries: rnd.Intn(2), Held: rnd.Intn(2) == 0}
		for i := range rnd.Intn(4) {
			s.After = append(s.After, 10*i+rnd.Intn(10)-5)
		}
		if spec.Check(s) != api.OK {
			continue
		}
		words := strings.Split(spec.Text(s), " ")
		rnd.Shuffle(len(words), func(i, j int) { words[i], words[j] = words[j], words[i] })
		back, e, at := spec.Parse(strings.Join(words, " "))
		if !reflect.DeepEqual(back, s) || e != api.OK || at != 0 {
			t.Fatal(s, back, e, at)
		}
		if spec.Suits(f, s) != api.OK && spec.Suits(less, s) == api.OK {
			t.Fatal("suits a smaller fleet", s)
		}
	}
}
