package frame_test

import (
	"bytes"
	"hash/crc32"
	"math/rand"
	"testing"

	"corvee/api"
	"corvee/frame"
)

func framed(t *testing.T, body string) []byte {
	t.Helper()
	b, err := frame.Frame([]byte(body))
	if err != api.OK {
		t.Fatal(err)
	}
	return b
}

// P2.1

func TestSum(t *testing.T) {
	if n := frame.Sum([]byte("123456789")); n != 3421780262 {
		t.Error(n)
	}
	if n := frame.Sum(nil); n != 0 {
		t.Error(n)
	}
	rnd := rand.New(rand.NewSource(1))
	for range 300 {
		b := make([]byte, rnd.Intn(100))
		rnd.Read(b)
		if frame.Sum(b) != crc32.ChecksumIEEE(b) {
			t.Fatal(b)
		}
	}
}

func TestFrame(t *testing.T) {
	if b := framed(t, ""); !bytes.Equal(b, []byte{0, 0, 0, 0, 33, 68, 223, 28}) {
		t.Error(b)
	}
	b := framed(t, "abc")
	sum := crc32.ChecksumIEEE([]byte{0, 0, 0, 3, 'a', 'b', 'c'})
	if !bytes.Equal(b, []byte{0, 0, 0, 3, 'a', 'b', 'c', byte(sum >> 24), byte(sum >> 16), byte(sum >> 8), byte(sum)}) {
		t.Error(b)
	}
	if b, err := frame.Frame(make([]byte, api.MaxBody)); err != api.OK || len(b) != api.MaxBody+8 || !bytes.Equal(b[:4], []byte{0, 1, 0, 0}) {
		t.Error(len(b), err)
	}
	if b, err := frame.Frame(make([]byte, api.MaxBody+1)); err != api.ErrLimit || b != nil {
		t.Error(len(b), err)
	}
}

func TestFrameIsNewMemory(t *testing.T) {
	whole := []byte("abcdefghijklmnop")
	b, _ := frame.Frame(whole[:2])
	b[4] = 'z'
	if string(whole) != "abcdefghijklmnop" {
		t.Error(string(whole))
	}
}

// P2.2

func TestNext(t *testing.T) {
	both := append(framed(t, "abc"), 1, 2, 3)
	body, rest, err := frame.Next(both)
	if string(body) != "abc" || !bytes.Equal(rest, []byte{1, 2, 3}) || err != api.OK {
		t.Error(body, rest, err)
	}
	body[0], rest[0] = 'z', 9
	if both[4] != 'a' || both[len(both)-3] != 1 {
		t.Error("shares memory")
	}
	body, rest, err = frame.Next(framed(t, ""))
	if len(body) != 0 || len(rest) != 0 || err != api.OK {
		t.Error(body, rest, err)
	}
}

func TestNextErrors(t *testing.T) {
	whole := framed(t, "ab")
	wrong := bytes.Clone(whole)
	wrong[4]++
	for _, c := range []struct {
		b []byte
		e api.Errno
	}{
		{nil, api.ErrShort}, {[]byte{255, 255, 255}, api.ErrShort},
		{[]byte{0, 1, 0, 1}, api.ErrForm}, {[]byte{255, 255, 255, 255, 1}, api.ErrForm}, {[]byte{0, 1, 0, 0}, api.ErrShort},
		{whole[:len(whole)-1], api.ErrShort}, {wrong[:len(wrong)-1], api.ErrShort}, {wrong, api.ErrSum}, {append(bytes.Clone(wrong), 0), api.ErrSum},
	} {
		body, rest, err := frame.Next(c.b)
		if body != nil || rest != nil || err != c.e {
			t.Error(c.b, body, rest, err)
		}
	}
}

// P2.3

func TestScan(t *testing.T) {
	a, b, c := framed(t, "a"), framed(t, ""), framed(t, "ccc")
	all := bytes.Join([][]byte{a, b, c}, nil)
	for _, x := range []struct {
		b    []byte
		many int
		at   int
	}{
		{nil, 0, 0}, {[]byte{0, 0}, 0, 0}, {append(bytes.Clone(a), 7, 7), 1, 9}, {all, 3, len(all)},
		{all[:len(all)-1], 2, 17}, {append(bytes.Clone(all), a[:8]...), 3, len(all)},
		{append(append(bytes.Clone(a), 0, 1, 0, 1), a...), 1, 9},
	} {
		bodies, at := frame.Scan(x.b)
		if len(bodies) != x.many || at != x.at {
			t.Error(x.b, bodies, at)
		}
		for i, body := range bodies {
			if string(body) != []string{"a", "", "ccc"}[i] {
				t.Error(i, body)
			}
		}
	}
	bodies, _ := frame.Scan(all)
	bodies[0][0] = 'z'
	bodies[0] = append(bodies[0], "much more"...)
	if !bytes.Equal(all, bytes.Join([][]byte{a, b, c}, nil)) {
		t.Error("shares memory")
	}
}

// P2.4

func TestEveryBitAndEveryEnd(t *testing.T) {
	whole := framed(t, "hello")
	for i := range whole {
		if _, _, err := frame.Next(whole[:i]); err != api.ErrShort {
			t.Error("truncated", i, err)
		}
		for bit := range 8 {
			spoilt := bytes.Clone(whole)
			spoilt[i] ^= 1 << bit
			if _, _, err := frame.Next(spoilt); err != api.ErrSum && i >= 4 || err == api.OK {
				t.Error("inverted", i, bit, err)
			}
		}
	}
}
