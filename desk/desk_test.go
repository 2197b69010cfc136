package desk

import (
	"math"
	"slices"
	"strings"
	"testing"

	"underpaint/api"
	"underpaint/wire"
)

// five are the bytes of the document's example 3.
func five() string {
	s, _ := wire.Write(api.Frame{W: 4, H: 2, Slots: 3, Out: 2, Passes: []api.Pass{
		{Op: api.Ramp, To: 0, K: 100},
		{Op: api.Fill, To: 1, K: 7},
		{Op: api.Blur, To: 2, A: 0},
		{Op: api.Fill, To: 1, K: 9},
		{Op: api.Add, To: 2, A: 0, B: 1},
	}})
	return s
}

// I1.
func TestShow(t *testing.T) {
	for _, x := range []struct {
		a    api.Image
		want string
	}{
		{api.Image{W: 1, H: 1, P: []int{0}}, "0\n"},
		{api.Image{W: 1, H: 1, P: []int{65535}}, "65535\n"},
		{api.Image{W: 3, H: 1, P: []int{0, 40000, 14464}}, "0 40000 14464\n"},
		{api.Image{W: 1, H: 3, P: []int{0, 40000, 14464}}, "0\n40000\n14464\n"},
		{api.Image{W: 3, H: 2, P: []int{1, 10, 100, 1000, 10000, 9}}, "1 10 100\n1000 10000 9\n"},
		{api.Image{W: 2, H: 3, P: []int{1, 10, 100, 1000, 10000, 9}}, "1 10\n100 1000\n10000 9\n"},
		{api.Image{W: 16, H: 16, P: make([]int, 256)}, strings.Repeat(strings.Repeat("0 ", 15)+"0\n", 16)},
		{api.Image{W: 16, H: 16, P: slices.Repeat([]int{65535}, 256)}, strings.Repeat(strings.Repeat("65535 ", 15)+"65535\n", 16)},
	} {
		if s, e := Show(x.a); s != x.want || e != api.OK {
			t.Errorf("%v is shown as %q, %d, must be %q", x.a, s, e, x.want)
		}
	}
}

// I1: images that are not right.
func TestShowErrors(t *testing.T) {
	for _, a := range []api.Image{
		{}, {W: 1, H: 1}, {W: 1, P: []int{1}}, {H: 1, P: []int{1}}, {W: -1, H: -1, P: []int{1}},
		{W: 2, H: 2, P: []int{1, 2, 3}}, {W: 2, H: 2, P: []int{1, 2, 3, 4, 5}},
		{W: 17, H: 1, P: make([]int, 17)}, {W: 1, H: 17, P: make([]int, 17)}, {W: math.MaxInt, H: math.MinInt, P: []int{1}}, {W: 1 << 32, H: 1 << 32},
		{W: 2, H: 1, P: []int{1, -1}}, {W: 2, H: 1, P: []int{65536, 1}}, {W: 1, H: 2, P: []int{math.MinInt, math.MaxInt}},
	} {
		if s, e := Show(a); s != "" || e != api.ErrForm {
			t.Errorf("%v is shown as %q, %d, must be nothing, ErrForm", a, s, e)
		}
	}
}

// I2, I3, example 9.
func TestDraw(t *testing.T) {
	const want = "9 109 209 309\n10 110 210 310\n"
	for room := range api.MaxArena + 1 {
		s, e := Draw(five(), room)
		if room < 24 && (s != "" || e != api.ErrFull) {
			t.Errorf("in room %d it is %q, %d, must be nothing, ErrFull", room, s, e)
		}
		if room >= 24 && (s != want || e != api.OK) {
			t.Errorf("in room %d it is %q, %d, must be %q", room, s, e, want)
		}
	}
}

// I2: passes that are not kept need no room, and Compile's places are taken.
func TestDrawRoom(t *testing.T) {
	for _, x := range []struct {
		name   string
		w, h   int
		out    int
		passes []api.Pass
		room   int
		want   string
	}{
		{"one number", 1, 1, 0, []api.Pass{{Op: api.Fill, To: 0, K: 5}}, 1, "5\n"},
		{"one of three is kept", 2, 1, 1, []api.Pass{{Op: api.Fill, To: 0, K: 5}, {Op: api.Ramp, To: 1, K: 6}, {Op: api.Add, To: 2, A: 0, B: 1}}, 2, "0 6\n"},
		{"to and fro", 2, 1, 0, []api.Pass{{Op: api.Ramp, To: 0, K: 5}, {Op: api.Shift, To: 1, A: 0, K: -1}, {Op: api.Cut, To: 0, A: 1, K: 6}, {Op: api.Copy, To: 1, A: 0}, {Op: api.Most, To: 0, A: 1, B: 1}}, 4, "0 0\n"},
		{"sizes", 2, 2, 2, []api.Pass{{Op: api.Ramp, To: 0, K: 5}, {Op: api.Up, To: 1, A: 0}, {Op: api.Down, To: 2, A: 1}}, 20, "0 5\n1 6\n"},
		{"lit", 2, 2, 1, []api.Pass{{Op: api.Ramp, To: 0, K: 5}, {Op: api.Lit, To: 1, A: 0, K: 1, Lights: []api.Light{{X: 1, Y: 0, Reach: 2, Power: 1000}}}}, 8, "500 1005\n1 506\n"},
	} {
		s, e := wire.Write(api.Frame{W: x.w, H: x.h, Slots: 3, Out: x.out, Passes: x.passes})
		if e != api.OK {
			t.Fatalf("%s: error %d", x.name, e)
		}
		for _, room := range []int{x.room, x.room + 1, api.MaxArena} {
			if got, e := Draw(s, room); got != x.want || e != api.OK {
				t.Errorf("%s, in room %d: it is %q, %d, must be %q", x.name, room, got, e, x.want)
			}
		}
		for _, room := range []int{0, x.room - 1} {
			if got, e := Draw(s, room); got != "" || e != api.ErrFull {
				t.Errorf("%s, in room %d: it is %q, %d, must be nothing, ErrFull", x.name, room, got, e)
			}
		}
	}
}

// I2: its errors, and which one is first.
func TestDrawErrors(t *testing.T) {
	fails := func(s string, room int, want api.Errno) {
		t.Helper()
		if got, e := Draw(s, room); got != "" || e != want {
			t.Errorf("Draw(%q, %d) is %q, %d, must be nothing, %d", s, room, got, e, want)
		}
	}
	for _, room := range []int{math.MinInt, -1, 4097, 1 << 32, math.MaxInt} {
		fails(five(), room, api.ErrRange)
		fails("", room, api.ErrForm)
		fails(five()+"\x00", room, api.ErrForm)
		fails(strings.Repeat("a", api.MaxBytes+1), room, api.ErrMany)
	}
	for _, room := range []int{0, 23, 24, 4096} {
		fails("", room, api.ErrForm)
		fails(five()[:44], room, api.ErrForm)
		fails(strings.Repeat("a", api.MaxBytes), room, api.ErrForm)
		fails(strings.Repeat("a", api.MaxBytes+1), room, api.ErrMany)
	}
	fails(five(), 0, api.ErrFull)
	fails(five(), 23, api.ErrFull)
}

// P2: an image that is shown is only read.
func TestMemory(t *testing.T) {
	a := api.Image{W: 2, H: 2, P: []int{1, 2, 3, 4, -7, -7}[:4]}
	Show(a)
	if a.W != 2 || a.H != 2 || !slices.Equal(a.P[:6], []int{1, 2, 3, 4, -7, -7}) {
		t.Errorf("the image was changed: %v", a)
	}
}
