package fleet_test

import (
	"slices"
	"strconv"
	"strings"
	"testing"

	"corvee/api"
	"corvee/fleet"
)

const two = "n1 4,8,0,0 main gpu\nn2 4,8,0,0 main\n"

func read(t *testing.T, text string) *fleet.Fleet {
	t.Helper()
	f, err, at := fleet.Read(text)
	if f == nil || err != api.OK || at != 0 {
		t.Fatalf("%q: %v %v", text, err, at)
	}
	return f
}

// many is the lines of so many nodes.
func many(n int) string {
	var b strings.Builder
	for i := range n {
		b.WriteString("n" + strconv.Itoa(i) + " 1,0,0,0 main\n")
	}
	return b.String()
}

// P5.1

func TestName(t *testing.T) {
	for _, s := range []string{"a", "z", "0", "9", "-", "n-1", "abcdefghijklmnop"} {
		if !fleet.Name(s) {
			t.Error(s)
		}
	}
	for _, s := range []string{"", "abcdefghijklmnopq", "A", "a b", "a_b", "a.b", "é", "a\n", "a\x00b", "a/", "a:", "`", "{"} {
		if fleet.Name(s) {
			t.Error(s)
		}
	}
}

func TestReadWell(t *testing.T) {
	for text, want := range map[string]int{
		"": 0, "\n": 0, "\n\n# x\n#": 0, "n1 0,0,0,0 a": 1, "n1 0,0,0,0 a\n": 1, "\n# n1\nn1 1,0,0,0 a\n\nn2 1,0,0,0 a\n": 2,
		two: 2, many(16): 16, "n1 1,0,0,0 a b c d e f g h\n": 1, many(16) + "# more\n\n": 16,
		"#" + strings.Repeat("x", api.MaxText-1): 0,
	} {
		if f := read(t, text); f.Len() != want {
			t.Errorf("%q: %d", text, f.Len())
		}
	}
}

func TestReadErrors(t *testing.T) {
	for _, c := range []struct {
		text string
		err  api.Errno
		at   int
	}{
		{"#" + strings.Repeat("x", api.MaxText), api.ErrLimit, 0},
		{"n1\n" + strings.Repeat("#", api.MaxText), api.ErrLimit, 0},
		{"# x\nn1 4,8,0,0", api.ErrLine, 2},
		{"n1  4,8,0,0 main", api.ErrLine, 1},
		{"n1 4,8,0,0  main", api.ErrLine, 1},
		{"n1 4,8,0,0 main ", api.ErrLine, 1},
		{" n1 4,8,0,0 main", api.ErrLine, 1},
		{" ", api.ErrLine, 1},
		{"\n\n \n", api.ErrLine, 3},
		{" # x", api.ErrLine, 1},
		{"N1 4,8,0,0 main", api.ErrLine, 1},
		{"n1 4,8,0 main", api.ErrLine, 1},
		{"n1 4,8,0,1073741825 main", api.ErrLine, 1},
		{"n1 4,8,0,0 Main", api.ErrLine, 1},
		{"n1 4,8,0,0 main\r\n", api.ErrLine, 1},
		{"n1 4,8,0,0\tmain", api.ErrLine, 1},
		{two + "n1 1,0,0,0 x", api.ErrTwice, 3},
		{two + "n1 1,0,0 x", api.ErrLine, 3},
		{"n1 1,0,0,0 x y x", api.ErrTwice, 1},
		{"n1 1,0,0,0 x x Y", api.ErrLine, 1},
		{many(17), api.ErrLimit, 17},
		{many(16) + "n3 1,0,0,0 a", api.ErrTwice, 17},
		{many(16) + "x 1,0,0,0 a a", api.ErrTwice, 17},
		{many(16) + "x", api.ErrLine, 17},
		{"n1 1,0,0,0 a b c d e f g h i", api.ErrLimit, 1},
		{"n1 1,0,0,0 a b c d e f g h a", api.ErrTwice, 1},
		{"n1 1,0,0,0 a\nbad\nworse", api.ErrLine, 2},
	} {
		if f, err, at := fleet.Read(c.text); f != nil || err != c.err || at != c.at {
			t.Errorf("%q: %v %v %v", c.text, f, err, at)
		}
	}
}

// P5.2

func TestQueries(t *testing.T) {
	f := read(t, "b 4,8,0,0 main gpu\na 1,2,3,1073741824 zeta main\nc 0,0,0,1073741824 gpu alpha\n")
	if n, ok := f.Node(1); !ok || n.Name != "a" || n.Cap != (api.Vec{1, 2, 3, 1 << 30}) || !slices.Equal(n.Parts, []string{"zeta", "main"}) {
		t.Error(n, ok)
	}
	for _, i := range []int{-1, 3, 1 << 40} {
		if n, ok := f.Node(i); ok || n.Name != "" || n.Cap != (api.Vec{}) || n.Parts != nil {
			t.Error(i, n, ok)
		}
	}
	for name, want := range map[string]int{"b": 0, "a": 1, "c": 2, "": -1, "main": -1, "B": -1} {
		if got := f.Index(name); got != want {
			t.Error(name, got)
		}
	}
	for part, want := range map[string][]int{"main": {0, 1}, "gpu": {0, 2}, "alpha": {2}, "": nil, "b": nil} {
		if got := f.In(part); !slices.Equal(got, want) {
			t.Error(part, got)
		}
	}
	if got := f.Parts(); !slices.Equal(got, []string{"alpha", "gpu", "main", "zeta"}) {
		t.Error(got)
	}
	for part, want := range map[string]api.Vec{"main": {5, 10, 3, 1 << 30}, "": {5, 10, 3, 2 << 30}, "alpha": {0, 0, 0, 1 << 30}, "none": {}} {
		if got := f.Total(part); got != want {
			t.Error(part, got)
		}
	}
}

func TestResultsAreNewMemory(t *testing.T) {
	f := read(t, two)
	n, _ := f.Node(0)
	n.Parts[0] = "x"
	f.In("main")[0] = 7
	f.Parts()[0] = "x"
	if m, _ := f.Node(0); m.Parts[0] != "main" || f.In("main")[0] != 0 || f.Parts()[0] != "gpu" || f.Text() != two {
		t.Error("a result changed the fleet")
	}
}

// P5.3

func TestText(t *testing.T) {
	if s := read(t, "# a\n\n"+two[:len(two)-1]).Text(); s != two {
		t.Error(s)
	}
	if s := read(t, "").Text(); s != "" {
		t.Error(s)
	}
}

func TestNil(t *testing.T) {
	var f *fleet.Fleet
	n, ok := f.Node(0)
	if ok || n.Name != "" || f.Len() != 0 || f.Index("") != -1 || f.In("main") != nil || f.Parts() != nil || f.Total("") != (api.Vec{}) || f.Text() != "" {
		t.Error("nil fleet")
	}
}

// P5.4

func TestReadOfText(t *testing.T) {
	for _, text := range []string{"", two, many(16), "x 1,2,3,4 h g f e d c b a\n#\ny 0,0,0,0 a"} {
		f := read(t, text)
		g := read(t, f.Text())
		if g.Text() != f.Text() || g.Len() != f.Len() {
			t.Error(text)
		}
		for i := range f.Len() {
			a, _ := f.Node(i)
			b, _ := g.Node(i)
			if a.Name != b.Name || a.Cap != b.Cap || !slices.Equal(a.Parts, b.Parts) {
				t.Error(a, b)
			}
		}
	}
}
