package code_test

import (
	"bytes"
	"math"
	"math/rand"
	"slices"
	"testing"

	"corvee/api"
	"corvee/code"
)

// P1.1

func TestPutNumbers(t *testing.T) {
	for _, c := range []struct {
		n    uint64
		want []byte
	}{
		{0, []byte{0}}, {1, []byte{1}}, {127, []byte{127}}, {128, []byte{128, 1}}, {300, []byte{172, 2}},
		{1<<14 - 1, []byte{255, 127}}, {1 << 14, []byte{128, 128, 1}},
		{1 << 63, []byte{128, 128, 128, 128, 128, 128, 128, 128, 128, 1}},
		{math.MaxUint64, []byte{255, 255, 255, 255, 255, 255, 255, 255, 255, 1}},
	} {
		if got := code.Uint(nil, c.n); !bytes.Equal(got, c.want) {
			t.Errorf("Uint %d: %v, not %v", c.n, got, c.want)
		}
	}
	for _, c := range []struct {
		n    int
		want []byte
	}{
		{0, []byte{0}}, {-1, []byte{1}}, {1, []byte{2}}, {-2, []byte{3}}, {63, []byte{126}}, {-64, []byte{127}}, {64, []byte{128, 1}},
		{math.MaxInt, []byte{254, 255, 255, 255, 255, 255, 255, 255, 255, 1}},
		{math.MinInt, []byte{255, 255, 255, 255, 255, 255, 255, 255, 255, 1}},
	} {
		if got := code.Int([]byte{7}, c.n); !bytes.Equal(got, append([]byte{7}, c.want...)) {
			t.Errorf("Int %d: %v, not 7 and %v", c.n, got, c.want)
		}
	}
}

func TestPutTextsAndRows(t *testing.T) {
	for _, c := range []struct{ got, want []byte }{
		{code.Text(nil, ""), []byte{0}},
		{code.Text(nil, "ab"), []byte{2, 97, 98}},
		{code.Text([]byte{5}, "\x00\xff"), []byte{5, 2, 0, 255}},
		{code.Ints(nil, nil), []byte{0}},
		{code.Ints(nil, []int{1, -1}), []byte{2, 2, 1}},
		{code.Ints([]byte{5, 6}, []int{64}), []byte{5, 6, 1, 128, 1}},
	} {
		if !bytes.Equal(c.got, c.want) {
			t.Errorf("%v, not %v", c.got, c.want)
		}
	}
	long := string(make([]byte, 200))
	if got := code.Text(nil, long); len(got) != 202 || got[0] != 200 || got[1] != 1 {
		t.Error("length of a long text", len(got))
	}
}

func TestPutIsNewMemory(t *testing.T) {
	whole := []byte{1, 2, 9, 9, 9, 9}
	b := whole[:2]
	for i, out := range [][]byte{code.Uint(b, 3), code.Int(b, 3), code.Text(b, "x"), code.Ints(b, []int{3})} {
		if !bytes.Equal(whole, []byte{1, 2, 9, 9, 9, 9}) {
			t.Fatal("spare capacity written", i, whole)
		}
		out[0] = 77
		if b[0] != 1 {
			t.Fatal("shares memory", i)
		}
	}
}

// P1.2

func TestReadInOrder(t *testing.T) {
	b := code.Uint(nil, 300)
	b = code.Int(b, -5)
	b = code.Text(b, "ab")
	b = code.Ints(b, []int{1, -1, 64})
	r := code.Read(b)
	if n := r.Uint(); n != 300 {
		t.Error(n)
	}
	if n := r.Int(); n != -5 {
		t.Error(n)
	}
	if s := r.Text(2); s != "ab" {
		t.Error(s)
	}
	if n := r.Left(); n != 5 {
		t.Error("left", n)
	}
	if l := r.Ints(3); !slices.Equal(l, []int{1, -1, 64}) {
		t.Error(l)
	}
	if r.Left() != 0 || r.Err() != api.OK || r.End() != api.OK {
		t.Error(r.Left(), r.Err())
	}
}

func TestReadNumberErrors(t *testing.T) {
	nines := bytes.Repeat([]byte{255}, 9)
	for _, c := range []struct {
		b []byte
		e api.Errno
	}{
		{nil, api.ErrShort}, {[]byte{128}, api.ErrShort}, {[]byte{128, 128}, api.ErrShort}, {nines, api.ErrShort},
		{[]byte{128, 0}, api.ErrForm}, {[]byte{255, 128, 0}, api.ErrForm},
		{append(slices.Clone(nines), 2), api.ErrForm}, {append(slices.Clone(nines), 128), api.ErrForm},
		{append(slices.Clone(nines), 255), api.ErrForm}, {append(slices.Clone(nines), 0), api.ErrForm},
		{append(slices.Clone(nines), 1), api.OK}, {[]byte{0}, api.OK}, {[]byte{128, 1}, api.OK},
	} {
		r, s := code.Read(c.b), code.Read(c.b)
		n, m := r.Uint(), s.Int()
		if r.Err() != c.e || s.Err() != c.e {
			t.Errorf("%v: %v, %v, not %v", c.b, r.Err(), s.Err(), c.e)
		}
		if c.e != api.OK && (n != 0 || m != 0 || r.Left() != 0) {
			t.Error(c.b, "answers beside an error", n, m)
		}
	}
	if n := code.Read(append(nines, 1)).Uint(); n != math.MaxUint64 {
		t.Error(n)
	}
}

func TestReadTextErrors(t *testing.T) {
	for _, c := range []struct {
		b    []byte
		most int
		want string
		e    api.Errno
	}{
		{[]byte{2, 97, 98}, 2, "ab", api.OK},
		{[]byte{2, 97, 98}, 3, "ab", api.OK},
		{[]byte{2, 97, 98}, 1, "", api.ErrForm},
		{[]byte{2, 97}, 1, "", api.ErrForm}, // too long is found ahead of too short
		{[]byte{2, 97}, 2, "", api.ErrShort},
		{[]byte{0}, -1, "", api.OK},
		{[]byte{1, 97}, -1, "", api.ErrForm},
		{[]byte{0}, math.MinInt, "", api.OK},
		{code.Uint(nil, math.MaxUint64), math.MaxInt, "", api.ErrForm},
		{code.Uint(nil, math.MaxInt), math.MaxInt, "", api.ErrShort},
		{[]byte{128, 0}, 9, "", api.ErrForm},
		{nil, 9, "", api.ErrShort},
	} {
		r := code.Read(c.b)
		if s := r.Text(c.most); s != c.want || r.Err() != c.e {
			t.Errorf("%v, most %d: %q %v", c.b, c.most, s, r.Err())
		}
	}
}

func TestReadRowErrors(t *testing.T) {
	for _, c := range []struct {
		b    []byte
		most int
		want []int
		e    api.Errno
	}{
		{[]byte{2, 2, 1}, 2, []int{1, -1}, api.OK},
		{[]byte{2, 2, 1}, 1, nil, api.ErrForm},
		{[]byte{2, 2}, 2, nil, api.ErrShort},
		{[]byte{2, 2, 128, 0}, 2, nil, api.ErrForm},
		{[]byte{0}, -3, nil, api.OK},
		{[]byte{1, 2}, -3, nil, api.ErrForm},
		{code.Uint(nil, math.MaxInt), math.MaxInt, nil, api.ErrShort},
		{code.Uint(nil, math.MaxUint64), math.MaxInt, nil, api.ErrForm},
	} {
		r := code.Read(c.b)
		if l := r.Ints(c.most); !slices.Equal(l, c.want) || r.Err() != c.e {
			t.Errorf("%v, most %d: %v %v", c.b, c.most, l, r.Err())
		}
	}
}

func TestReadKeepsNothingOfTheCaller(t *testing.T) {
	b := []byte{2, 97, 98}
	r := code.Read(b)
	b[1] = 'z'
	if s := r.Text(9); s != "ab" {
		t.Error(s)
	}
}

// P1.3

func TestFirstErrorStays(t *testing.T) {
	r := code.Read([]byte{128, 0, 1, 1, 1})
	r.Uint()
	r.Fail(api.ErrShort)
	if r.Uint() != 0 || r.Int() != 0 || r.Text(9) != "" || len(r.Ints(9)) != 0 || r.Left() != 0 || r.Err() != api.ErrForm || r.End() != api.ErrForm {
		t.Error("behind an error", r.Err())
	}
	r = code.Read([]byte{1, 2})
	r.Fail(api.OK)
	if r.Err() != api.OK || r.Left() != 2 {
		t.Error("Fail(OK) did something")
	}
	r.Fail(api.ErrEvent)
	r.Fail(api.ErrForm)
	if r.Uint() != 0 || r.Left() != 0 || r.Err() != api.ErrEvent || r.End() != api.ErrEvent {
		t.Error("Fail", r.Err())
	}
}

func TestEndOfLeftBytes(t *testing.T) {
	r := code.Read([]byte{1, 2})
	r.Uint()
	if r.Err() != api.OK || r.End() != api.ErrForm || r.Err() != api.ErrForm || r.Left() != 0 || r.Uint() != 0 {
		t.Error("End with bytes left", r.Err())
	}
}

func TestNilReader(t *testing.T) {
	var r *code.Reader
	r.Fail(api.ErrForm)
	if r.Uint() != 0 || r.Int() != 0 || r.Text(3) != "" || len(r.Ints(3)) != 0 || r.Left() != 0 || r.Err() != api.ErrArg || r.End() != api.ErrArg {
		t.Error("nil reader")
	}
}

// P1.4

func TestThereAndBack(t *testing.T) {
	rnd := rand.New(rand.NewSource(1))
	for range 2000 {
		n, m := rnd.Uint64()>>rnd.Intn(64), int(rnd.Uint64())>>rnd.Intn(64)
		s := string(make([]byte, rnd.Intn(300)))
		l := make([]int, rnd.Intn(5))
		for i := range l {
			l[i] = int(rnd.Uint64()) >> rnd.Intn(64)
		}
		b := code.Ints(code.Text(code.Int(code.Uint(nil, n), m), s), l)
		r := code.Read(b)
		if r.Uint() != n || r.Int() != m || r.Text(300) != s || !slices.Equal(r.Ints(5), l) || r.End() != api.OK {
			t.Fatal(n, m, len(s), l, r.Err())
		}
		r = code.Read(b[:rnd.Intn(len(b))])
		r.Uint()
		r.Int()
		r.Text(300)
		r.Ints(5)
		if r.End() != api.ErrShort {
			t.Fatal("truncated", r.End())
		}
	}
}

func TestOneEncodingOnly(t *testing.T) {
	for a := range 256 {
		for b := range 256 {
			r := code.Read([]byte{byte(a), byte(b)})
			n := r.Uint()
			if r.End() == api.OK && !bytes.Equal(code.Uint(nil, n), []byte{byte(a), byte(b)}) {
				t.Fatal(a, b, n)
			}
		}
	}
}
