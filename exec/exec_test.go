package exec

import (
	"math"
	"reflect"
	"slices"
	"testing"

	"underpaint/api"
)

// five is the frame of the document's example 3.
func five() api.Frame {
	return api.Frame{W: 4, H: 2, Slots: 3, Out: 2, Passes: []api.Pass{
		{Op: api.Ramp, To: 0, K: 100},
		{Op: api.Fill, To: 1, K: 7},
		{Op: api.Blur, To: 2, A: 0},
		{Op: api.Fill, To: 1, K: 9},
		{Op: api.Add, To: 2, A: 0, B: 1},
	}}
}

// places of example 5.
func places() api.Plan { return api.Plan{Order: []int{0, 3, 4}, Places: []int{8, -1, -1, 0, 20}} }

func sum() api.Image {
	return api.Image{W: 4, H: 2, P: []int{9, 109, 209, 309, 10, 110, 210, 310}}
}

// other numbers, each one different.
func other(n int) []int {
	arena := make([]int, n)
	for i := range arena {
		arena[i] = 1000 + 3*i
	}
	return arena
}

// over is the arena with numbers laid over it from a place on.
func over(arena []int, place int, numbers ...int) []int {
	arena = slices.Clone(arena)
	copy(arena[place:], numbers)
	return arena
}

// G1, example 7.
func TestStepByStep(t *testing.T) {
	for _, room := range []int{28, 29, 100, 4096} {
		arena := other(room)
		first := over(arena, 8, 0, 100, 200, 300, 1, 101, 201, 301)
		second := over(first, 0, 9, 9, 9, 9, 9, 9, 9, 9)
		third := over(second, 20, sum().P...)
		for n, want := range [][]int{first, second, third} {
			got, e := Step(five(), places(), arena, n)
			if e != api.OK || !slices.Equal(got, want) {
				t.Fatalf("room %d, step %d: it is %v, %d, must be %v", room, n, got, e, want)
			}
			arena = got
		}
		if a, e := Run(five(), places(), other(room)); e != api.OK || !reflect.DeepEqual(a, sum()) {
			t.Errorf("room %d: Run tells %v, %d", room, a, e)
		}
	}
}

// G1: a step takes what lies there, whatever was done ahead of it.
func TestStepAlone(t *testing.T) {
	arena := other(30)
	want := make([]int, 8)
	for i := range want {
		want[i] = arena[8+i] + arena[i]
	}
	if got, e := Step(five(), places(), arena, 2); e != api.OK || !slices.Equal(got, over(arena, 20, want...)) {
		t.Errorf("it is %v, %d", got, e)
	}
	// Of A and B, each from its own place, in their order.
	f := five()
	f.Passes[4].Op = api.Sub
	for i := range want {
		want[i] = arena[8+i] - arena[i]
	}
	if got, e := Step(f, places(), arena, 2); e != api.OK || !slices.Equal(got, over(arena, 20, want...)) {
		t.Errorf("it is %v, %d", got, e)
	}
	f.Passes[4].A, f.Passes[4].B = 1, 0
	if got, e := Step(f, places(), arena, 2); e != api.OK || !slices.Equal(got, over(arena, 20, make([]int, 8)...)) {
		t.Errorf("it is %v, %d", got, e)
	}
}

// G1: images of several sizes, and a frame of which what is shown is not made last.
func TestSizes(t *testing.T) {
	f := api.Frame{W: 2, H: 2, Slots: 4, Out: 1, Passes: []api.Pass{
		{Op: api.Ramp, To: 0, K: 10},
		{Op: api.Up, To: 1, A: 0},
		{Op: api.Down, To: 2, A: 1},
		{Op: api.Lit, To: 3, A: 2, K: 1, Lights: []api.Light{{X: 1, Y: 1, Reach: 1, Power: 500}}},
	}}
	p := api.Plan{Order: []int{0, 1, 2, 3}, Places: []int{16, 0, 21, 17}}
	arena := other(25)
	up := []int{0, 0, 10, 10, 0, 0, 10, 10, 1, 1, 11, 11, 1, 1, 11, 11}
	for n, want := range [][]int{
		over(arena, 16, 0, 10, 1, 11),
		over(over(arena, 16, 0, 10, 1, 11), 0, up...),
		over(over(over(arena, 16, 0, 10, 1, 11), 0, up...), 21, 0, 10, 1, 11),
		over(over(over(arena, 16, 0), 0, up...), 17, 0, 10, 1, 511, 0, 10, 1, 11),
	} {
		got, e := Step(f, p, arena, n)
		if e != api.OK || !slices.Equal(got, want) {
			t.Fatalf("step %d: it is %v, %d, must be %v", n, got, e, want)
		}
		arena = got
	}
	if a, e := Run(f, p, other(25)); e != api.OK || !reflect.DeepEqual(a, api.Image{W: 4, H: 4, P: up}) {
		t.Errorf("Run tells %v, %d", a, e)
	}
}

// G2: whatever plan fits, Run tells the same.
func TestOtherPlans(t *testing.T) {
	for _, x := range []struct {
		name string
		p    api.Plan
		room int
	}{
		{"compiled", api.Plan{Order: []int{0, 3, 4}, Places: []int{0, -1, -1, 8, 16}}, 24},
		{"another order", api.Plan{Order: []int{3, 0, 4}, Places: []int{0, -1, -1, 8, 16}}, 24},
		{"other places", api.Plan{Order: []int{3, 0, 4}, Places: []int{16, -1, -1, 8, 0}}, 24},
		{"a long way off", api.Plan{Order: []int{3, 0, 4}, Places: []int{4088, -1, -1, 8, 0}}, 4096},
		{"with what is not kept", api.Plan{Order: []int{1, 0, 2, 3, 4}, Places: []int{0, 3, 9, 8, 16}}, 24},
		{"with what is not kept, last", api.Plan{Order: []int{0, 3, 4, 2, 1}, Places: []int{0, 7, 8, 8, 16}}, 24},
	} {
		for _, arena := range [][]int{make([]int, x.room), other(x.room), slices.Repeat([]int{api.Top}, x.room)} {
			if a, e := Run(five(), x.p, arena); e != api.OK || !reflect.DeepEqual(a, sum()) {
				t.Errorf("%s: it is %v, %d", x.name, a, e)
			}
		}
	}
}

// fails: both calls tell that error, and nothing with it.
func fails(t *testing.T, name string, f api.Frame, p api.Plan, arena []int, want api.Errno) {
	t.Helper()
	for _, n := range []int{0, 2, -1} {
		if got, e := Step(f, p, arena, n); len(got) > 0 || e != want {
			t.Errorf("%s: Step %d is %v, %d, must be nothing, %d", name, n, got, e, want)
		}
	}
	if a, e := Run(f, p, arena); !reflect.DeepEqual(a, api.Image{}) || e != want {
		t.Errorf("%s: Run is %v, %d, must be nothing, %d", name, a, e, want)
	}
}

// G1: plan.Check's errors, with as much room as the arena has, then ErrRange.
func TestErrors(t *testing.T) {
	wrong := func(n int) []int { return over(other(n), 0, -1) }
	f := five()
	f.Passes[1].Op = 14
	fails(t, "frame", f, places(), other(28), api.ErrKind)
	fails(t, "frame ahead of room", f, places(), other(4097), api.ErrKind)
	fails(t, "frame ahead of plan", f, api.Plan{}, other(28), api.ErrKind)
	fails(t, "frame ahead of numbers", f, places(), wrong(28), api.ErrKind)
	fails(t, "nothing", api.Frame{}, api.Plan{}, nil, api.ErrRange)
	fails(t, "room", five(), places(), other(4097), api.ErrRange)
	fails(t, "room ahead of form", five(), api.Plan{}, other(4097), api.ErrRange)
	fails(t, "far too much room", five(), api.Plan{}, other(1<<20), api.ErrRange)
	fails(t, "form", five(), api.Plan{}, other(28), api.ErrForm)
	p := places()
	p.Order = []int{0, 4, 3}
	fails(t, "form, the order", five(), p, other(28), api.ErrForm)
	fails(t, "form ahead of full", five(), p, nil, api.ErrForm)
	fails(t, "form ahead of numbers", five(), p, wrong(28), api.ErrForm)
	fails(t, "full", five(), places(), other(27), api.ErrFull)
	fails(t, "no arena", five(), places(), nil, api.ErrFull)
	fails(t, "full ahead of numbers", five(), places(), wrong(27), api.ErrFull)
	p = places()
	p.Places[4] = 1
	fails(t, "over one another", five(), p, other(28), api.ErrFull)
	p = places()
	p.Places[0] = math.MaxInt
	fails(t, "no place", five(), p, other(28), api.ErrForm)
	for _, n := range []int{math.MinInt, -1, api.Top + 1, math.MaxInt} {
		for _, i := range []int{0, 7, 17, 27, 29} { // at 17 and 29 no image lies
			fails(t, "a wrong number", five(), places(), over(other(30), i, n), api.ErrRange)
		}
	}
	for _, n := range []int{0, api.Top} {
		if a, e := Run(five(), places(), over(other(30), 17, n)); e != api.OK || !reflect.DeepEqual(a, sum()) {
			t.Errorf("with %d in the arena: it is %v, %d", n, a, e)
		}
	}
	for _, n := range []int{math.MinInt, -1, 3, 4, 5, math.MaxInt} {
		if got, e := Step(five(), places(), other(28), n); len(got) > 0 || e != api.ErrRange {
			t.Errorf("step %d is %v, %d, must be nothing, ErrRange", n, got, e)
		}
		if got, e := Step(five(), api.Plan{}, other(28), n); len(got) > 0 || e != api.ErrForm {
			t.Errorf("step %d of no plan is %v, %d, must be nothing, ErrForm", n, got, e)
		}
		if got, e := Step(five(), places(), other(27), n); len(got) > 0 || e != api.ErrFull {
			t.Errorf("step %d without room is %v, %d, must be nothing, ErrFull", n, got, e)
		}
	}
}

// P2: what is handed in is only read, the arena too, and an answer is new memory.
func TestMemory(t *testing.T) {
	f, p, arena := five(), places(), append(other(28), -7, -7)[:28]
	f.Passes = append(f.Passes, api.Pass{Op: -7})[:5]
	p.Order = append(p.Order, -7)[:3]
	p.Places = append(p.Places, -7)[:5]
	one, _ := Step(f, p, arena, 0)
	two, _ := Step(f, p, arena, 0)
	a, _ := Run(f, p, arena)
	b, _ := Run(f, p, arena)
	if !slices.Equal(arena[:30], append(other(28), -7, -7)) {
		t.Errorf("the arena was changed: %v", arena[:30])
	}
	if !reflect.DeepEqual(f, five()) || !reflect.DeepEqual(p, places()) || f.Passes[:6][5].Op != -7 || p.Order[:4][3] != -7 || p.Places[:6][5] != -7 {
		t.Errorf("the frame, or the plan, was changed: %v, %v", f, p)
	}
	clear(arena)
	clear(f.Passes)
	want := over(other(28), 8, 0, 100, 200, 300, 1, 101, 201, 301)
	if !slices.Equal(one, want) || !slices.Equal(two, want) || !reflect.DeepEqual(a, sum()) || !reflect.DeepEqual(b, sum()) {
		t.Errorf("what was handed in was kept")
	}
	clear(one[:cap(one)])
	clear(a.P[:cap(a.P)])
	if !slices.Equal(two, want) || !reflect.DeepEqual(b, sum()) {
		t.Errorf("two answers share memory")
	}
}
