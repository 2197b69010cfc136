package fit

import (
	"math"
	"reflect"
	"slices"
	"testing"

	"underpaint/api"
	"underpaint/plan"
)

func span(first, last int) api.Span { return api.Span{First: first, Last: last} }

// F1.
func TestPlace(t *testing.T) {
	twelve := make([]api.Span, 12)
	for i := range twelve {
		twelve[i] = span(30*(11-i), 30*(11-i)+20+i%3)
	}
	for _, x := range []struct {
		name string
		busy []api.Span
		size int
		want int
	}{
		{"nothing is busy", nil, 1, 0},
		{"nothing is busy, not nil", []api.Span{}, 4096, 0},
		{"behind one", []api.Span{span(0, 3)}, 1, 4},
		{"behind one, as great as may be", []api.Span{span(0, 3)}, 4096, 4},
		{"behind one number", []api.Span{span(0, 0)}, 5, 1},
		{"ahead of one", []api.Span{span(5, 9)}, 5, 0},
		{"not ahead of one", []api.Span{span(5, 9)}, 6, 10},
		{"ahead of one at 1", []api.Span{span(1, 1)}, 1, 0},
		{"not ahead of one at 1", []api.Span{span(1, 1)}, 2, 2},
		{"in a gap", []api.Span{span(0, 3), span(6, 9)}, 2, 4},
		{"not in a gap", []api.Span{span(0, 3), span(6, 9)}, 3, 10},
		{"in a gap, the other way", []api.Span{span(6, 9), span(0, 3)}, 2, 4},
		{"not in a gap, the other way", []api.Span{span(6, 9), span(0, 3)}, 3, 10},
		{"no gap", []api.Span{span(0, 3), span(4, 9)}, 1, 10},
		{"no gap, the other way", []api.Span{span(4, 9), span(0, 3)}, 1, 10},
		{"the second gap", []api.Span{span(0, 3), span(5, 7), span(10, 20)}, 2, 8},
		{"the first gap of two", []api.Span{span(10, 20), span(0, 3), span(6, 7)}, 2, 4},
		{"over one another", []api.Span{span(2, 8), span(0, 3)}, 1, 9},
		{"one within another", []api.Span{span(0, 9), span(2, 3)}, 1, 10},
		{"one within another, the other way", []api.Span{span(2, 3), span(0, 9)}, 1, 10},
		{"one within another, and a gap", []api.Span{span(0, 9), span(2, 3), span(12, 13)}, 2, 10},
		{"the same twice", []api.Span{span(0, 3), span(0, 3)}, 1, 4},
		{"the same beginning", []api.Span{span(0, 7), span(0, 3), span(0, 5)}, 1, 8},
		{"all of the arena", []api.Span{span(0, 4096)}, 1, 4097},
		{"all of the arena, as great as may be", []api.Span{span(0, 4096)}, 4096, 4097},
		{"the arena's end alone", []api.Span{span(4096, 4096)}, 4096, 0},
		{"the arena's end, a number less", []api.Span{span(4095, 4096)}, 4096, 4097},
		{"twelve", twelve, 7, 23},
		{"twelve, a greater one", twelve, 9, 81},
		{"twelve, too great for each gap", twelve, 10, 351},
		{"twelve of the same", slices.Repeat([]api.Span{span(0, 0)}, 12), 1, 1},
	} {
		if n, e := Place(x.busy, x.size); n != x.want || e != api.OK {
			t.Errorf("%s: Place(%v, %d) is %d, %d, must be %d", x.name, x.busy, x.size, n, e, x.want)
		}
	}
}

// F1: its errors, and which one is first.
func TestPlaceErrors(t *testing.T) {
	fails := func(busy []api.Span, size int, want api.Errno) {
		t.Helper()
		if n, e := Place(busy, size); n != 0 || e != want {
			t.Errorf("Place(%v, %d) is %d, %d, must be 0, %d", busy, size, n, e, want)
		}
	}
	wild := []int{math.MinInt, -1, 0, 4097, 1 << 32, math.MaxInt}
	for _, size := range wild {
		fails(nil, size, api.ErrRange)
		fails([]api.Span{span(0, 3)}, size, api.ErrRange)
		fails([]api.Span{span(3, 0)}, size, api.ErrRange)
		fails(slices.Repeat([]api.Span{span(0, 3)}, 13), size, api.ErrMany)
	}
	for _, one := range []api.Span{
		span(1, 0), span(3, 2), span(4096, 0), span(0, -1), span(-1, -1), span(-1, 0), span(-1, 4096), span(0, 4097), span(4096, 4097), span(4097, 4097), span(4097, 4096),
		span(math.MinInt, 0), span(0, math.MinInt), span(math.MinInt, math.MinInt), span(0, math.MaxInt), span(math.MaxInt, math.MaxInt), span(math.MinInt, math.MaxInt), span(math.MaxInt, math.MinInt),
	} {
		fails([]api.Span{one}, 1, api.ErrRange)
		fails([]api.Span{span(9, 10), span(0, 3), one}, 2, api.ErrRange)
		fails([]api.Span{one, span(9, 10), span(0, 3)}, 2, api.ErrRange)
		fails(append(slices.Repeat([]api.Span{span(0, 3)}, 11), one), 2, api.ErrRange)
		fails(append(slices.Repeat([]api.Span{span(0, 3)}, 12), one), 2, api.ErrMany)
	}
	fails(make([]api.Span, 13), 1, api.ErrMany)
	fails(make([]api.Span, 100000), 0, api.ErrMany)
}

// draws are numbers without an order, the same each time.
type draws uint32

func (d *draws) below(n int) int {
	*d = *d*1664525 + 1013904223
	return int(*d>>8) % n
}

// F1, place by place.
func TestPlaceByPlace(t *testing.T) {
	d := draws(4)
	for range 20000 {
		var busy []api.Span
		for range d.below(13) {
			first := d.below(60)
			busy = append(busy, span(first, first+d.below(8)))
		}
		size := 1 + d.below(9)
		want := 0
		for slices.ContainsFunc(busy, func(b api.Span) bool { return want <= b.Last && b.First <= want+size-1 }) {
			want++
		}
		if n, e := Place(busy, size); n != want || e != api.OK {
			t.Fatalf("Place(%v, %d) is %d, %d, must be %d", busy, size, n, e, want)
		}
	}
}

// five is the frame of the document's example 3.
func five() api.Frame {
	return api.Frame{W: 4, H: 2, Slots: 3, Out: 2, Passes: []api.Pass{
		{Op: api.Ramp, To: 0, K: 100},
		{Op: api.Fill, To: 1, K: 7},
		{Op: api.Blur, To: 2, A: 0},
		{Op: api.Fill, To: 1, K: 9},
		{Op: api.Add, To: 2, A: 0, B: 1},
	}}
}

// F2, example 6.
func TestCompile(t *testing.T) {
	fill := api.Pass{Op: api.Fill, To: 0, K: 1}
	pass := func(op, to, a, b int) api.Pass { return api.Pass{Op: op, To: to, A: a, B: b} }
	early := five()
	early.Out = 0
	for _, x := range []struct {
		name string
		f    api.Frame
		want api.Plan
		peak int
	}{
		{"example 6", five(), api.Plan{Order: []int{0, 3, 4}, Places: []int{0, -1, -1, 8, 16}}, 24},
		{"one alone", early, api.Plan{Order: []int{0}, Places: []int{0, -1, -1, -1, -1}}, 8},
		{"to and fro", api.Frame{W: 3, H: 1, Slots: 2, Out: 1, Passes: []api.Pass{
			fill, pass(api.Copy, 1, 0, 0), pass(api.Copy, 0, 1, 0), pass(api.Copy, 1, 0, 0)}},
			api.Plan{Order: []int{0, 1, 2, 3}, Places: []int{0, 3, 0, 3}}, 6},
		{"one that is needed for long", api.Frame{W: 3, H: 1, Slots: 4, Out: 3, Passes: []api.Pass{
			fill, pass(api.Copy, 1, 0, 0), pass(api.Copy, 2, 1, 0), pass(api.Copy, 1, 2, 0), pass(api.Add, 3, 1, 0)}},
			api.Plan{Order: []int{0, 1, 2, 3, 4}, Places: []int{0, 3, 6, 3, 6}}, 9},
		{"a small one in the room of a great one", api.Frame{W: 4, H: 4, Slots: 4, Out: 3, Passes: []api.Pass{
			fill, pass(api.Down, 1, 0, 0), pass(api.Down, 2, 1, 0), pass(api.Up, 3, 2, 0)}},
			api.Plan{Order: []int{0, 1, 2, 3}, Places: []int{0, 16, 0, 1}}, 20},
		{"a great one that no gap has room for", api.Frame{W: 2, H: 2, Slots: 4, Out: 3, Passes: []api.Pass{
			fill, pass(api.Copy, 1, 0, 0), pass(api.Up, 2, 1, 0), pass(api.Down, 3, 2, 0)}},
			api.Plan{Order: []int{0, 1, 2, 3}, Places: []int{0, 4, 8, 0}}, 24},
		{"twelve side by side", api.Frame{W: 16, H: 16, Slots: 8, Out: 0, Passes: []api.Pass{
			fill, pass(api.Copy, 1, 0, 0), pass(api.Copy, 2, 0, 0), pass(api.Copy, 3, 0, 0), pass(api.Copy, 4, 0, 0), pass(api.Copy, 5, 0, 0),
			pass(api.Add, 6, 1, 2), pass(api.Add, 7, 3, 4), pass(api.Add, 1, 5, 0), pass(api.Add, 2, 6, 7), pass(api.Add, 3, 1, 2), pass(api.Copy, 0, 3, 0)}},
			api.Plan{Order: []int{0, 1, 2, 3, 4, 5, 6, 7, 8, 9, 10, 11}, Places: []int{0, 256, 512, 768, 1024, 1280, 1536, 256, 512, 0, 256, 0}}, 1792},
	} {
		p, e := Compile(x.f)
		if e != api.OK || !reflect.DeepEqual(p, x.want) {
			t.Errorf("%s: it is %v, %d, must be %v", x.name, p, e, x.want)
		}
		if peak, e := plan.Peak(x.f, p); peak != x.peak || e != api.OK {
			t.Errorf("%s: Peak is %d, %d, must be %d", x.name, peak, e, x.peak)
		}
		if e := plan.Check(x.f, p, x.peak); e != api.OK {
			t.Errorf("%s: it does not fit: %d", x.name, e)
		}
	}
}

// F2: frame.Check's errors, and nothing else with them.
func TestCompileErrors(t *testing.T) {
	for _, x := range []struct {
		name string
		turn func(f *api.Frame)
		want api.Errno
	}{
		{"rows", func(f *api.Frame) { f.H = 0 }, api.ErrRange},
		{"no pass", func(f *api.Frame) { f.Passes = nil }, api.ErrMany},
		{"kind", func(f *api.Frame) { f.Passes[1].Op = 0 }, api.ErrKind},
		{"form", func(f *api.Frame) { f.Passes[1].B = 1 }, api.ErrForm},
		{"none", func(f *api.Frame) { f.Passes = f.Passes[:2] }, api.ErrNone},
		{"size", func(f *api.Frame) { f.W = 3; f.Passes[2].Op = api.Down }, api.ErrSize},
		{"all of it", func(f *api.Frame) { *f = api.Frame{} }, api.ErrRange},
	} {
		f := five()
		x.turn(&f)
		if p, e := Compile(f); len(p.Order) > 0 || len(p.Places) > 0 || e != x.want {
			t.Errorf("%s: it is %v, %d, must be nothing, %d", x.name, p, e, x.want)
		}
	}
}

// P2: what is handed in is only read, and an answer is new memory.
func TestMemory(t *testing.T) {
	busy := []api.Span{span(6, 9), span(0, 3), span(2, 2), span(-7, -7), span(-7, -7)}
	Place(busy[:3], 2)
	if !slices.Equal(busy, []api.Span{span(6, 9), span(0, 3), span(2, 2), span(-7, -7), span(-7, -7)}) {
		t.Errorf("what was busy was changed: %v", busy)
	}
	f := five()
	f.Passes = append(f.Passes, api.Pass{Op: -7})[:5]
	one, _ := Compile(f)
	two, _ := Compile(f)
	if f.Passes[:6][5].Op != -7 || !reflect.DeepEqual(f, five()) {
		t.Errorf("the frame was changed: %v", f)
	}
	clear(f.Passes)
	want := api.Plan{Order: []int{0, 3, 4}, Places: []int{0, -1, -1, 8, 16}}
	clear(one.Order[:cap(one.Order)])
	if !slices.Equal(one.Places, want.Places) {
		t.Errorf("two lists share memory: %v", one)
	}
	clear(one.Places[:cap(one.Places)])
	if !reflect.DeepEqual(two, want) {
		t.Errorf("two answers share memory: %v", two)
	}
}
