package light

import (
	"math"
	"reflect"
	"slices"
	"testing"

	"underpaint/api"
)

// lights with spare room behind, which no call may touch.
func lights(l ...api.Light) []api.Light {
	spare := api.Light{X: -7, Y: -7, Reach: -7, Power: -7}
	return append(append(make([]api.Light, 0, len(l)+2), l...), spare, spare)[:len(l)]
}

func picture(w, h int, p ...int) api.Image {
	return api.Image{W: w, H: h, P: append(append(make([]int, 0, len(p)+2), p...), -7, -7)[:len(p)]}
}

type draws uint32

func (d *draws) below(n int) int {
	*d = *d*1664525 + 1013904223
	return int(*d>>8) % n
}

func (d *draws) lights() []api.Light {
	var l []api.Light
	for range d.below(api.MaxLights + 1) {
		l = append(l, api.Light{X: d.below(api.MaxSide), Y: d.below(api.MaxSide), Reach: 1 + d.below(api.MaxReach)>>d.below(6), Power: d.below(api.Top + 1)})
	}
	return lights(l...)
}

func (d *draws) picture() api.Image {
	w, h := 1+d.below(api.MaxSide), 1+d.below(api.MaxSide)
	var p []int
	for range w * h {
		p = append(p, d.below(api.Top+1)>>d.below(10))
	}
	return picture(w, h, p...)
}

var wrongLights = []api.Light{
	{X: 0, Y: 0, Reach: 0, Power: 0},
	{X: -1, Y: 0, Reach: 1, Power: 0},
	{X: 16, Y: 0, Reach: 1, Power: 0},
	{X: 0, Y: -1, Reach: 1, Power: 0},
	{X: 0, Y: 16, Reach: 1, Power: 0},
	{X: 0, Y: 0, Reach: -1, Power: 0},
	{X: 0, Y: 0, Reach: 33, Power: 0},
	{X: 0, Y: 0, Reach: 1, Power: -1},
	{X: 0, Y: 0, Reach: 1, Power: api.Top + 1},
	{X: math.MinInt, Y: math.MaxInt, Reach: math.MaxInt, Power: math.MaxInt},
	{X: 0, Y: 0, Reach: math.MinInt, Power: 0},
	{X: 0, Y: 0, Reach: 32, Power: math.MaxInt},
}

var edgeLights = []api.Light{
	{X: 0, Y: 0, Reach: 1, Power: 0},
	{X: 15, Y: 15, Reach: 32, Power: api.Top},
	{X: 0, Y: 15, Reach: 1, Power: api.Top},
	{X: 15, Y: 0, Reach: 32, Power: 0},
}

// tell asks all four calls of lights, of which each must tell the error.
func tell(t *testing.T, name string, l []api.Light, x, y, tile int, want api.Errno) {
	t.Helper()
	if e := Check(l); e != want {
		t.Errorf("%s: Check is %d, must be %d", name, e, want)
	}
	if n, e := At(l, x, y); n != 0 || e != want {
		t.Errorf("%s: At is %d, %d, must be 0, %d", name, n, e, want)
	}
	if n, e := Near(l, x, y, 1, 1); len(n) != 0 || e != want {
		t.Errorf("%s: Near is %v, %d, must be nothing, %d", name, n, e, want)
	}
	if a, e := Lit(picture(1, 1, 5), l, tile); !reflect.DeepEqual(a, api.Image{}) || e != want {
		t.Errorf("%s: Lit is %v, %d, must be nothing, %d", name, a, e, want)
	}
}

// B1: Check, which At, Near and Lit tell ahead of their own errors.
func TestCheck(t *testing.T) {
	for n := range api.MaxLights + 1 {
		var l []api.Light
		for i := range n {
			l = append(l, edgeLights[i%len(edgeLights)])
		}
		if e := Check(lights(l...)); e != api.OK {
			t.Errorf("Check of %v is %d, must be OK", l, e)
		}
	}
	if Check(nil) != api.OK || Check([]api.Light{}) != api.OK {
		t.Error("Check of no lights must be OK")
	}
	for _, one := range wrongLights {
		tell(t, "one", lights(one), 0, 0, 1, api.ErrRange)
		tell(t, "the last", lights(append(slices.Clone(edgeLights), one)...), 0, 0, 1, api.ErrRange)
		tell(t, "one, and a wrong place", lights(one), -1, 16, 0, api.ErrRange)
		tell(t, "too many, and wrong", slices.Repeat(lights(one), 9), -1, 16, 0, api.ErrMany)
	}
	right := api.Light{Reach: 1}
	tell(t, "one too many", slices.Repeat([]api.Light{right}, 9), 0, 0, 1, api.ErrMany)
	tell(t, "far too many", slices.Repeat([]api.Light{right}, 1000), -1, 16, 0, api.ErrMany)
}

// B1: At.
func TestAt(t *testing.T) {
	one := api.Light{X: 5, Y: 6, Reach: 2, Power: 1001}
	far := api.Light{X: 0, Y: 0, Reach: 32, Power: api.Top}
	near := api.Light{X: 3, Y: 3, Reach: 1, Power: 77}
	for _, x := range []struct {
		name string
		l    []api.Light
		x, y int
		want int
	}{
		{"no lights", nil, 0, 0, 0},
		{"at its place", lights(one), 5, 6, 1001},
		{"left of it", lights(one), 4, 6, 500},
		{"right of it", lights(one), 6, 6, 500},
		{"above it", lights(one), 5, 5, 500},
		{"below it", lights(one), 5, 7, 500},
		{"a corner of it", lights(one), 6, 7, 0},
		{"two columns from it", lights(one), 7, 6, 0},
		{"far from it", lights(one), 15, 15, 0},
		{"the farthest place", lights(far), 15, 15, api.Top * 2 / 32},
		{"one nearer", lights(far), 14, 15, api.Top * 3 / 32},
		{"reach 1, there", lights(near), 3, 3, 77},
		{"reach 1, beside it", lights(near), 3, 4, 0},
		{"rounded one by one", lights(one, one), 4, 6, 1000},
		{"more than the top", slices.Repeat(lights(api.Light{Reach: 9, Power: api.Top}), 8), 0, 0, 8 * api.Top},
		{"of different reach", lights(one, near, api.Light{X: 3, Y: 4, Reach: 3, Power: 10}), 3, 3, 77 + 6},
		{"no power", lights(api.Light{X: 2, Y: 2, Reach: 32}), 2, 2, 0},
	} {
		if n, e := At(x.l, x.x, x.y); n != x.want || e != api.OK {
			t.Errorf("%s: At is %d, %d, must be %d", x.name, n, e, x.want)
		}
	}
}

// B1, wrong places.
func TestAtErrors(t *testing.T) {
	l := lights(api.Light{Reach: 32, Power: 9})
	for _, c := range []int{math.MinInt, -1, 16, math.MaxInt} {
		for _, p := range [][2]int{{c, 0}, {0, c}, {c, c}} {
			if n, e := At(l, p[0], p[1]); n != 0 || e != api.ErrRange {
				t.Errorf("At(%v) is %d, %d, must be 0, ErrRange", p, n, e)
			}
			if n, e := At(nil, p[0], p[1]); n != 0 || e != api.ErrRange {
				t.Errorf("At(%v) of no lights is %d, %d, must be 0, ErrRange", p, n, e)
			}
		}
	}
}

// B2.
func TestNear(t *testing.T) {
	l := lights(
		api.Light{X: 5, Y: 5, Reach: 1, Power: 9},
		api.Light{X: 8, Y: 5, Reach: 2, Power: 9},
		api.Light{X: 8, Y: 8, Reach: 4, Power: 9},
		api.Light{X: 0, Y: 0, Reach: 32, Power: 0},
	)
	for _, x := range []struct {
		name       string
		l          []api.Light
		x, y, w, h int
		want       []int
	}{
		{"no lights", nil, 0, 0, 16, 16, nil},
		{"all", l, 0, 0, 16, 16, []int{0, 1, 2, 3}},
		{"over one of reach 1", l, 5, 5, 1, 1, []int{0, 3}},
		{"beside one of reach 1", l, 4, 5, 1, 1, []int{3}},
		{"from left, just near", l, 6, 5, 2, 1, []int{1, 3}},
		{"from left, just not", l, 6, 5, 1, 1, []int{3}},
		{"from right, just near", l, 9, 5, 3, 1, []int{1, 3}},
		{"from right, just not", l, 10, 5, 3, 1, []int{3}},
		{"round a corner, just near", l, 9, 10, 2, 2, []int{2, 3}},
		{"round a corner, just not", l, 10, 10, 2, 2, []int{3}},
		{"the last place", l, 15, 15, 1, 1, []int{3}},
		{"a light amid", l, 2, 2, 10, 10, []int{0, 1, 2, 3}},
	} {
		if n, e := Near(x.l, x.x, x.y, x.w, x.h); !slices.Equal(n, x.want) || e != api.OK {
			t.Errorf("%s: Near is %v, %d, must be %v", x.name, n, e, x.want)
		}
	}
}

// B2, wrong inputs.
func TestNearErrors(t *testing.T) {
	l := lights(api.Light{Reach: 32, Power: 9})
	for _, s := range [][2]int{
		{-1, 1}, {16, 1}, {math.MinInt, 1}, {math.MaxInt, 1}, {0, 0}, {0, -1}, {0, 17}, {15, 2}, {8, 9},
		{15, math.MaxInt}, {0, math.MinInt}, {math.MaxInt, math.MaxInt}, {math.MinInt, math.MinInt}, {-1, 17},
	} {
		if n, e := Near(l, s[0], 0, s[1], 1); len(n) != 0 || e != api.ErrRange {
			t.Errorf("columns %v: Near is %v, %d, must be ErrRange", s, n, e)
		}
		if n, e := Near(l, 0, s[0], 1, s[1]); len(n) != 0 || e != api.ErrRange {
			t.Errorf("rows %v: Near is %v, %d, must be ErrRange", s, n, e)
		}
	}
	for _, s := range [][2]int{{0, 16}, {15, 1}, {8, 8}, {0, 1}} {
		if n, e := Near(l, s[0], s[0], s[1], s[1]); !slices.Equal(n, []int{0}) || e != api.OK {
			t.Errorf("edges %v: Near is %v, %d, must be light 0", s, n, e)
		}
	}
}

// B2: Near against the distance from each place, one by one.
func TestNearPlaceByPlace(t *testing.T) {
	d := draws(3)
	for range 2000 {
		l := d.lights()
		x, y := d.below(api.MaxSide), d.below(api.MaxSide)
		w, h := 1+d.below(api.MaxSide-x), 1+d.below(api.MaxSide-y)
		var want []int
		for i, one := range l {
			if slowNear(one, x, y, w, h) {
				want = append(want, i)
			}
		}
		if n, e := Near(l, x, y, w, h); !slices.Equal(n, want) || e != api.OK {
			t.Fatalf("Near(%v, %d, %d, %d, %d) is %v, %d, must be %v", l, x, y, w, h, n, e, want)
		}
	}
}

func slowNear(one api.Light, x, y, w, h int) bool {
	for c := x; c < x+w; c++ {
		for r := y; r < y+h; r++ {
			if math.Abs(float64(c-one.X))+math.Abs(float64(r-one.Y)) < float64(one.Reach) {
				return true
			}
		}
	}
	return false
}

// B3.
func TestLit(t *testing.T) {
	l := lights(api.Light{X: 1, Y: 0, Reach: 2, Power: 100}, api.Light{X: 0, Y: 1, Reach: 1, Power: 65000})
	a := picture(3, 2, 1, 2, 3, 536, 5, 6)
	for _, x := range []struct {
		name string
		a    api.Image
		l    []api.Light
		want []int
	}{
		{"two lights", a, l, []int{51, 102, 53, api.Top, 55, 6}},
		{"just the top", picture(1, 2, 0, 535), l[1:], []int{0, api.Top}},
		{"just below the top", picture(1, 2, 0, 534), l[1:], []int{0, api.Top - 1}},
		{"no lights", a, nil, []int{1, 2, 3, 536, 5, 6}},
		{"a light outside of it, that reaches in", picture(2, 1, 7, 7), lights(api.Light{X: 2, Y: 1, Reach: 3, Power: 9}), []int{7, 10}},
		{"tops", picture(1, 1, api.Top), slices.Repeat(lights(api.Light{Reach: 9, Power: api.Top}), 8), []int{api.Top}},
	} {
		for tile := 1; tile <= api.MaxSide; tile++ {
			b, e := Lit(x.a, x.l, tile)
			if want := (api.Image{W: x.a.W, H: x.a.H, P: x.want}); !reflect.DeepEqual(b, want) || e != api.OK {
				t.Errorf("%s, tile %d: Lit is %v, %d, must be %v", x.name, tile, b, e, want)
			}
		}
	}
}

// B3: each number, and what At tells; how great the tiles are changes nothing.
func TestLitIsAt(t *testing.T) {
	d := draws(9)
	for range 300 {
		a, l := d.picture(), d.lights()
		want := api.Image{W: a.W, H: a.H}
		for i, n := range a.P {
			given, _ := At(l, i%a.W, i/a.W)
			want.P = append(want.P, min(n+given, api.Top))
		}
		for tile := 1; tile <= api.MaxSide; tile++ {
			if b, e := Lit(a, l, tile); !reflect.DeepEqual(b, want) || e != api.OK {
				t.Fatalf("tile %d: Lit(%v, %v) is %v, %d, must be %v", tile, a, l, b, e, want)
			}
		}
	}
}

// B3, wrong inputs: the image's error, then that of the lights, then that of the tile.
func TestLitErrors(t *testing.T) {
	right, one := picture(1, 1, 5), lights(api.Light{Reach: 1})
	wrong := []api.Image{{}, {W: 1, H: 1}, {W: 17, H: 1, P: make([]int, 17)}, {W: 1, H: 1, P: []int{api.Top + 1}}, {W: 1 << 32, H: 1 << 32}}
	many := make([]api.Light, 9)
	for _, tile := range []int{math.MinInt, -1, 0, 1, 16, 17, math.MaxInt} {
		for _, a := range wrong {
			for _, l := range [][]api.Light{nil, one, many, lights(api.Light{})} {
				unlit(t, a, l, tile, api.ErrForm)
			}
		}
		unlit(t, right, many, tile, api.ErrMany)
		unlit(t, right, lights(api.Light{}), tile, api.ErrRange)
		if tile < 1 || tile > api.MaxSide {
			unlit(t, right, one, tile, api.ErrRange)
			unlit(t, right, nil, tile, api.ErrRange)
		}
	}
}

func unlit(t *testing.T, a api.Image, l []api.Light, tile int, want api.Errno) {
	t.Helper()
	if b, e := Lit(a, l, tile); !reflect.DeepEqual(b, api.Image{}) || e != want {
		t.Errorf("Lit(%v, %v, %d) is %v, %d, must be %d", a, l, tile, b, e, want)
	}
}

// P2: what is handed in is only read, and the answer is new memory.
func TestMemory(t *testing.T) {
	d := draws(5)
	for range 50 {
		a, l := d.picture(), d.lights()
		p, k := slices.Clone(a.P[:cap(a.P)]), slices.Clone(l[:cap(l)])
		Check(l)
		At(l, 3, 3)
		near, _ := Near(l, 2, 2, 5, 5)
		lit, _ := Lit(a, l, 3)
		if !slices.Equal(p, a.P[:cap(a.P)]) || !slices.Equal(k, l[:cap(l)]) {
			t.Fatal("what was handed in, or the room behind it, was changed")
		}
		near2, _ := Near(l, 2, 2, 5, 5)
		lit2, _ := Lit(a, l, 3)
		clear(a.P[:cap(a.P)])
		clear(l[:cap(l)])
		if !slices.Equal(near, near2) || !reflect.DeepEqual(lit, lit2) {
			t.Fatal("an answer shares memory with what was handed in, or is another one the second time")
		}
		clear(near[:cap(near)])
		clear(lit.P[:cap(lit.P)])
		a, l = picture(a.W, a.H, p[:len(p)-2]...), lights(k[:len(k)-2]...)
		near3, _ := Near(l, 2, 2, 5, 5)
		lit3, _ := Lit(a, l, 3)
		if !slices.Equal(near2, near3) || !reflect.DeepEqual(lit2, lit3) {
			t.Fatal("two answers share memory")
		}
	}
}
