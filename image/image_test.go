package image

import (
	"math"
	"reflect"
	"strconv"
	"testing"

	"underpaint/api"
)

// of makes an image of its rows' numbers; it has spare room behind, which no call may touch.
func of(w, h int, p ...int) api.Image {
	room := append(append(make([]int, 0, len(p)+4), p...), -7, -7, -7, -7)
	return api.Image{W: w, H: h, P: room[:len(p)]}
}

func filled(w, h, k int) api.Image {
	p := make([]int, w*h)
	for i := range p {
		p[i] = k
	}
	return of(w, h, p...)
}

// patch is numbers without an order, the same each time.
func patch(w, h, seed int) api.Image {
	p := make([]int, w*h)
	n := uint32(seed)*2654435761 + 12345
	for i := range p {
		n = n*1664525 + 1013904223
		p[i] = int(n >> 16)
	}
	return of(w, h, p...)
}

// same tells whether an answer is the wanted one; with an error the image must be the zero value.
func same(t *testing.T, name string, got api.Image, e api.Errno, want api.Image, wantE api.Errno) {
	t.Helper()
	if e != wantE {
		t.Errorf("%s: error %d, must be %d", name, e, wantE)
		return
	}
	if e != api.OK {
		if !reflect.DeepEqual(got, api.Image{}) {
			t.Errorf("%s: with error %d it is %v, must be the zero value", name, e, got)
		}
		return
	}
	if !reflect.DeepEqual(got, want) {
		t.Errorf("%s: it is %v, must be %v", name, got, want)
	}
}

func fails(t *testing.T, name string, got api.Image, e, want api.Errno) {
	t.Helper()
	same(t, name, got, e, api.Image{}, want)
}

var wrong = []api.Image{
	{},
	{W: 0, H: 1},
	{W: 1, H: 0},
	{W: 1, H: 1},
	{W: 2, H: 2, P: make([]int, 3)},
	{W: 2, H: 2, P: make([]int, 5)},
	{W: 17, H: 1, P: make([]int, 17)},
	{W: 1, H: 17, P: make([]int, 17)},
	{W: -1, H: -1, P: make([]int, 1)},
	{W: -2, H: 2, P: nil},
	{W: 1 << 32, H: 1 << 32, P: nil}, // the product wraps round to 0
	{W: math.MinInt, H: 2, P: nil},
	{W: math.MaxInt, H: math.MaxInt, P: make([]int, 1)},
	{W: 1, H: 1, P: []int{-1}},
	{W: 1, H: 1, P: []int{api.Top + 1}},
	{W: 2, H: 2, P: []int{0, 0, 0, -1}},
	{W: 2, H: 2, P: []int{0, 0, 0, math.MaxInt}},
	{W: 2, H: 2, P: []int{math.MinInt, 0, 0, 0}},
}

// A1.
func TestCheck(t *testing.T) {
	for _, a := range []api.Image{of(1, 1, 0), of(1, 1, api.Top), filled(16, 16, api.Top), filled(16, 1, 0), filled(1, 16, 3), of(2, 3, 0, 1, 2, 3, 4, api.Top)} {
		if e := Check(a); e != api.OK {
			t.Errorf("Check(%v) is %d, must be OK", a, e)
		}
	}
	for _, a := range wrong {
		if e := Check(a); e != api.ErrForm {
			t.Errorf("Check(%v) is %d, must be ErrForm", a, e)
		}
	}
}

// A1: One and Two tell ErrForm ahead of all else.
func TestFormFirst(t *testing.T) {
	right := of(1, 1, 5)
	for _, a := range wrong {
		for _, op := range []int{-1, 0, api.Fill, api.Copy, api.Add, api.Cut, api.Shift, api.Blur, api.Down, api.Up, api.Lit, 14} {
			b, e := One(op, a, math.MaxInt)
			fails(t, "One", b, e, api.ErrForm)
			b, e = Two(op, a, right)
			fails(t, "Two, first", b, e, api.ErrForm)
			b, e = Two(op, right, a)
			fails(t, "Two, second", b, e, api.ErrForm)
			b, e = Two(op, a, a)
			fails(t, "Two, both", b, e, api.ErrForm)
		}
	}
}

// A2.
func TestMake(t *testing.T) {
	for _, x := range []struct {
		name        string
		op, w, h, k int
		want        api.Image
	}{
		{"fill", api.Fill, 2, 3, 7, of(2, 3, 7, 7, 7, 7, 7, 7)},
		{"fill with 0", api.Fill, 1, 1, 0, of(1, 1, 0)},
		{"fill with the top", api.Fill, 16, 16, api.Top, filled(16, 16, api.Top)},
		{"ramp of example 1", api.Ramp, 3, 1, 40000, of(3, 1, 0, 40000, 14464)},
		{"ramp of rows", api.Ramp, 3, 2, 10, of(3, 2, 0, 10, 20, 1, 11, 21)},
		{"ramp by 0", api.Ramp, 2, 3, 0, of(2, 3, 0, 0, 1, 1, 2, 2)},
		{"ramp, wrapped by the row", api.Ramp, 2, 3, api.Top, of(2, 3, 0, api.Top, 1, 0, 2, 1)},
	} {
		a, e := Make(x.op, x.w, x.h, x.k)
		same(t, x.name, a, e, x.want, api.OK)
	}
	a, e := Make(api.Ramp, 16, 16, api.Top)
	if e != api.OK || len(a.P) != 256 || a.P[255] != 0 || a.P[15] != 65521 || a.P[240] != 15 {
		t.Errorf("greatest ramp: %v %d", a, e)
	}
}

// A2, wrong inputs.
func TestMakeErrors(t *testing.T) {
	for _, op := range []int{math.MinInt, -1, 0, api.Copy, api.Add, api.Blur, api.Up, api.Lit, 14, math.MaxInt} {
		a, e := Make(op, 2, 2, 7)
		fails(t, "Make, kind", a, e, api.ErrKind)
		a, e = Make(op, 0, 17, -1)
		fails(t, "Make, kind ahead of range", a, e, api.ErrKind)
	}
	for _, op := range []int{api.Fill, api.Ramp} {
		for _, n := range []int{math.MinInt, -1, 0, 17, 1 << 32, math.MaxInt} {
			a, e := Make(op, n, 1, 1)
			fails(t, "Make, columns", a, e, api.ErrRange)
			a, e = Make(op, 1, n, 1)
			fails(t, "Make, rows", a, e, api.ErrRange)
		}
		for _, k := range []int{math.MinInt, -1, api.Top + 1, math.MaxInt} {
			a, e := Make(op, 1, 1, k)
			fails(t, "Make, k", a, e, api.ErrRange)
		}
	}
}

// A3.
func TestOne(t *testing.T) {
	a := of(3, 2, 1, 2, 3, 4, 5, 6)
	for _, x := range []struct {
		name string
		op   int
		a    api.Image
		k    int
		want api.Image
	}{
		{"copy", api.Copy, a, 0, a},
		{"cut below 4", api.Cut, a, 4, of(3, 2, 0, 0, 0, 4, 5, 6)},
		{"cut below 0", api.Cut, a, 0, a},
		{"cut below the top", api.Cut, of(3, 1, 0, api.Top-1, api.Top), api.Top, of(3, 1, 0, 0, api.Top)},
		{"shift by 0", api.Shift, a, 0, a},
		{"shift right", api.Shift, a, 1, of(3, 2, 1, 1, 2, 4, 4, 5)},
		{"shift left", api.Shift, a, -1, of(3, 2, 2, 3, 3, 5, 6, 6)},
		{"shift left by 2", api.Shift, a, -2, of(3, 2, 3, 3, 3, 6, 6, 6)},
		{"shift right as far as may be", api.Shift, a, api.MaxSide, of(3, 2, 1, 1, 1, 4, 4, 4)},
		{"shift left as far as may be", api.Shift, a, -api.MaxSide, of(3, 2, 3, 3, 3, 6, 6, 6)},
		{"blur of one", api.Blur, of(1, 1, 9), 0, of(1, 1, 9)},
		{"blur of a row", api.Blur, of(4, 1, 0, 3, 4, 9), 0, of(4, 1, 1, 2, 5, 6)},
		{"blur of a column", api.Blur, of(1, 4, 0, 3, 4, 9), 0, of(1, 4, 1, 2, 5, 6)},
		{"blur of nine", api.Blur, of(3, 3, 1, 2, 3, 4, 5, 6, 7, 8, 17), 0, of(3, 3, 3, 3, 4, 4, 5, 6, 6, 7, 9)},
		{"blur of tops", api.Blur, filled(16, 16, api.Top), 0, filled(16, 16, api.Top)},
		{"down", api.Down, of(4, 2, 1, 2, 10, 20, 3, 5, 30, 41), 0, of(2, 1, 2, 25)},
		{"down of rows", api.Down, of(2, 4, 1, 2, 3, 5, 10, 20, 30, 43), 0, of(1, 2, 2, 25)},
		{"down of tops", api.Down, filled(16, 16, api.Top), 0, filled(8, 8, api.Top)},
		{"up", api.Up, of(2, 2, 1, 2, 3, 4), 0, of(4, 4, 1, 1, 2, 2, 1, 1, 2, 2, 3, 3, 4, 4, 3, 3, 4, 4)},
		{"up as far as may be", api.Up, filled(8, 8, 5), 0, filled(16, 16, 5)},
	} {
		b, e := One(x.op, x.a, x.k)
		same(t, x.name, b, e, x.want, api.OK)
	}
}

// A3: of most operations k counts for nothing.
func TestOneWithoutK(t *testing.T) {
	a := patch(4, 6, 1)
	for _, op := range []int{api.Copy, api.Blur, api.Down, api.Up} {
		want, e := One(op, a, 0)
		same(t, "One", want, e, want, api.OK)
		for _, k := range []int{math.MinInt, -17, -1, 1, api.Top + 1, math.MaxInt} {
			b, e := One(op, a, k)
			same(t, "One with a k that counts for nothing", b, e, want, api.OK)
		}
	}
}

// A3, wrong inputs.
func TestOneErrors(t *testing.T) {
	a := of(2, 2, 1, 2, 3, 4)
	for _, op := range []int{math.MinInt, -1, 0, api.Fill, api.Ramp, api.Add, api.Sub, api.Mul, api.Most, api.Lit, 14, math.MaxInt} {
		b, e := One(op, a, -100)
		fails(t, "One, kind", b, e, api.ErrKind)
	}
	for _, k := range []int{math.MinInt, -1, api.Top + 1, math.MaxInt} {
		b, e := One(api.Cut, a, k)
		fails(t, "One, Cut", b, e, api.ErrRange)
	}
	for _, k := range []int{math.MinInt, -17, 17, math.MaxInt} {
		b, e := One(api.Shift, a, k)
		fails(t, "One, Shift", b, e, api.ErrRange)
	}
	for _, s := range []api.Size{{W: 1, H: 1}, {W: 1, H: 2}, {W: 2, H: 1}, {W: 15, H: 16}, {W: 16, H: 15}} {
		b, e := One(api.Down, filled(s.W, s.H, 1), 0)
		fails(t, "One, Down", b, e, api.ErrSize)
	}
	for _, s := range []api.Size{{W: 9, H: 1}, {W: 1, H: 9}, {W: 16, H: 16}} {
		b, e := One(api.Up, filled(s.W, s.H, 1), 0)
		fails(t, "One, Up", b, e, api.ErrSize)
	}
}

// A4.
func TestTwo(t *testing.T) {
	const top = api.Top
	a := of(3, 2, 0, 5, 40000, top, 300, 2)
	b := of(3, 2, 7, 3, 25535, top, 300, 40000)
	for _, x := range []struct {
		name     string
		op       int
		a, b     api.Image
		p        []int
		backward []int
	}{
		{"add", api.Add, a, b, []int{7, 8, 65535, top, 600, 40002}, []int{7, 8, 65535, top, 600, 40002}},
		{"add, one above the top", api.Add, of(1, 1, 40000), of(1, 1, 25536), []int{top}, []int{top}},
		{"add, one below the top", api.Add, of(1, 1, 40000), of(1, 1, 25534), []int{top - 1}, []int{top - 1}},
		{"sub", api.Sub, a, b, []int{0, 2, 14465, 0, 0, 0}, []int{7, 0, 0, 0, 0, 39998}},
		{"mul", api.Mul, a, b, []int{0, 0, 15585, top, 1, 1}, []int{0, 0, 15585, top, 1, 1}},
		{"mul by the top", api.Mul, of(1, 2, 1, 40000), of(1, 2, top, top), []int{1, 40000}, []int{1, 40000}},
		{"most", api.Most, a, b, []int{7, 5, 40000, top, 300, 40000}, []int{7, 5, 40000, top, 300, 40000}},
	} {
		c, e := Two(x.op, x.a, x.b)
		same(t, x.name, c, e, of(x.a.W, x.a.H, x.p...), api.OK)
		c, e = Two(x.op, x.b, x.a)
		same(t, x.name+", the other way", c, e, of(x.a.W, x.a.H, x.backward...), api.OK)
	}
	c, e := Two(api.Sub, a, a)
	same(t, "less itself", c, e, filled(3, 2, 0), api.OK)
}

// A4, wrong inputs.
func TestTwoErrors(t *testing.T) {
	a, b := filled(2, 3, 1), filled(3, 2, 1)
	for _, op := range []int{math.MinInt, -1, 0, api.Fill, api.Ramp, api.Copy, api.Cut, api.Shift, api.Blur, api.Down, api.Up, api.Lit, 14, math.MaxInt} {
		c, e := Two(op, a, a)
		fails(t, "Two, kind", c, e, api.ErrKind)
		c, e = Two(op, a, b)
		fails(t, "Two, kind ahead of size", c, e, api.ErrKind)
	}
	for _, op := range []int{api.Add, api.Sub, api.Mul, api.Most} {
		for _, other := range []api.Image{b, filled(2, 2, 1), filled(3, 3, 1), filled(1, 6, 1), filled(6, 1, 1)} {
			c, e := Two(op, a, other)
			fails(t, "Two, size", c, e, api.ErrSize)
			c, e = Two(op, other, a)
			fails(t, "Two, size", c, e, api.ErrSize)
		}
	}
}

// What the whole promises of chapter 1.
func TestUpDownAndBothWays(t *testing.T) {
	for w := 1; w <= 8; w++ {
		for h := 1; h <= 8; h++ {
			a, b := patch(w, h, w*100+h), patch(w, h, w*100+h+50)
			up, e := One(api.Up, a, 0)
			if e != api.OK {
				t.Fatal(e)
			}
			down, e := One(api.Down, up, 0)
			same(t, "up, and then down", down, e, a, api.OK)
			for _, op := range []int{api.Most, api.Add} {
				c, _ := Two(op, a, b)
				d, e := Two(op, b, a)
				same(t, "whichever comes first", d, e, c, api.OK)
			}
		}
	}
}

// A3: Blur and Shift against what the chapter's words tell of each place, in every size.
func TestEverySize(t *testing.T) {
	for w := 1; w <= api.MaxSide; w++ {
		for h := 1; h <= api.MaxSide; h++ {
			a := patch(w, h, w*31+h)
			b, e := One(api.Blur, a, 0)
			same(t, "blur", b, e, slowBlur(a), api.OK)
			for _, k := range []int{-api.MaxSide, -3, 0, 2, api.MaxSide} {
				b, e := One(api.Shift, a, k)
				same(t, "shift", b, e, slowShift(a, k), api.OK)
			}
		}
	}
}

func slowBlur(a api.Image) api.Image {
	var p []int
	for i := range a.P {
		sum, n := 0, 0
		for j, m := range a.P {
			dx, dy := i%a.W-j%a.W, i/a.W-j/a.W
			if dx*dx <= 1 && dy*dy <= 1 {
				sum, n = sum+m, n+1
			}
		}
		p = append(p, sum/n)
	}
	return api.Image{W: a.W, H: a.H, P: p}
}

func slowShift(a api.Image, k int) api.Image {
	var p []int
	for i := range a.P {
		x := i%a.W - k
		if x < 0 {
			x = 0
		}
		if x >= a.W {
			x = a.W - 1
		}
		p = append(p, a.P[i/a.W*a.W+x])
	}
	return api.Image{W: a.W, H: a.H, P: p}
}

// P2: what is handed in is only read, and the answer is new memory.
func TestMemory(t *testing.T) {
	calls := map[string]func(a, b api.Image) (api.Image, api.Errno){}
	for _, op := range []int{api.Copy, api.Cut, api.Shift, api.Blur, api.Down, api.Up} {
		calls["One "+strconv.Itoa(op)] = func(a, b api.Image) (api.Image, api.Errno) { return One(op, a, 0) }
	}
	for _, op := range []int{api.Add, api.Sub, api.Mul, api.Most} {
		calls["Two "+strconv.Itoa(op)] = func(a, b api.Image) (api.Image, api.Errno) { return Two(op, a, b) }
		calls["Two of the same "+strconv.Itoa(op)] = func(a, b api.Image) (api.Image, api.Errno) { return Two(op, a, a) }
	}
	for name, call := range calls {
		a, b := patch(4, 4, 1), patch(4, 4, 2)
		c, e := call(a, b)
		if e != api.OK {
			t.Fatalf("%s: error %d", name, e)
		}
		untouched(t, name, a, patch(4, 4, 1))
		untouched(t, name, b, patch(4, 4, 2))
		d, _ := call(a, b)
		spoil(a)
		spoil(b)
		if !reflect.DeepEqual(c, d) {
			t.Errorf("%s: the answer shares memory with what was handed in, or is another one the second time", name)
		}
		spoil(c)
		again, _ := call(patch(4, 4, 1), patch(4, 4, 2))
		if !reflect.DeepEqual(d, again) {
			t.Errorf("%s: two answers share memory", name)
		}
	}
}

func untouched(t *testing.T, name string, a, want api.Image) {
	t.Helper()
	if !reflect.DeepEqual(a.P[:cap(a.P)], want.P[:cap(want.P)]) {
		t.Errorf("%s: what was handed in, or the room behind it, was changed", name)
	}
}

func spoil(a api.Image) {
	p := a.P[:cap(a.P)]
	for i := range p {
		p[i] = 12321
	}
}

// P2: two answers of Make are not one.
func TestMakeMemory(t *testing.T) {
	for _, op := range []int{api.Fill, api.Ramp} {
		a, _ := Make(op, 3, 3, 5)
		b, _ := Make(op, 3, 3, 5)
		spoil(a)
		c, e := Make(op, 3, 3, 5)
		same(t, "Make once more", c, e, b, api.OK)
	}
}
