package plan

import (
	"math"
	"reflect"
	"slices"
	"testing"

	"underpaint/api"
)

// five is the frame of the document's example 3: passes 0, 3 and 4 are kept.
func five() api.Frame {
	return api.Frame{W: 4, H: 2, Slots: 3, Out: 2, Passes: []api.Pass{
		{Op: api.Ramp, To: 0, K: 100},
		{Op: api.Fill, To: 1, K: 7},
		{Op: api.Blur, To: 2, A: 0},
		{Op: api.Fill, To: 1, K: 9},
		{Op: api.Add, To: 2, A: 0, B: 1},
	}}
}

// sizes is a frame whose images have 16, 4, 1, 4, 16 and 1 numbers; passes 0 and 4 are kept.
func sizes() api.Frame {
	return api.Frame{W: 4, H: 4, Slots: 5, Out: 4, Passes: []api.Pass{
		{Op: api.Ramp, To: 0, K: 100},
		{Op: api.Down, To: 1, A: 0},
		{Op: api.Down, To: 2, A: 1},
		{Op: api.Up, To: 3, A: 2},
		{Op: api.Add, To: 4, A: 0, B: 0},
		{Op: api.Copy, To: 3, A: 2},
	}}
}

func of(order []int, places ...int) api.Plan { return api.Plan{Order: order, Places: places} }

// told is what the three calls tell of a plan beside the error.
type told struct {
	spans       []api.Span
	peak, floor int
}

// asked is what the three calls tell, which must be at one about the error with Check in room enough, and tell nothing else with it.
func asked(t *testing.T, f api.Frame, p api.Plan) (told, api.Errno) {
	t.Helper()
	spans, e := Spans(f, p)
	peak, e1 := Peak(f, p)
	floor, e2 := Floor(f, p)
	e3 := Check(f, p, api.MaxArena)
	if e3 == api.ErrFull {
		e3 = api.OK
	}
	if e1 != e || e2 != e || e3 != e {
		t.Errorf("%v, %v: Spans has error %d, Peak %d, Floor %d, Check %d", f, p, e, e1, e2, e3)
	}
	if e != api.OK && (len(spans) > 0 || peak != 0 || floor != 0) {
		t.Errorf("%v, %v: with error %d it is %v, %d, %d", f, p, e, spans, peak, floor)
	}
	return told{spans, peak, floor}, e
}

func span(first, last int) api.Span { return api.Span{First: first, Last: last} }

// E1, E2: plans in order.
func TestInOrder(t *testing.T) {
	no := span(-1, -1)
	early := five() // shown is what pass 0 made
	early.Out = 0
	for _, x := range []struct {
		name string
		f    api.Frame
		p    api.Plan
		want told
	}{
		{"example 5", five(), of([]int{0, 3, 4}, 8, -1, -1, 0, 20),
			told{[]api.Span{span(0, 2), no, no, span(1, 2), span(2, 2)}, 28, 24}},
		{"another order", five(), of([]int{3, 0, 4}, 8, -1, -1, 0, 16),
			told{[]api.Span{span(1, 2), no, no, span(0, 2), span(2, 2)}, 24, 24}},
		{"one that is not kept, last", five(), of([]int{0, 3, 4, 1}, 8, 0, -1, 0, 16),
			told{[]api.Span{span(0, 2), span(3, 3), no, span(1, 2), span(2, 3)}, 24, 24}},
		{"one that is not kept, first", five(), of([]int{1, 0, 3, 4}, 8, 0, -1, 0, 16),
			told{[]api.Span{span(1, 3), span(0, 0), no, span(2, 3), span(3, 3)}, 24, 24}},
		{"one that is not kept takes an image last", five(), of([]int{3, 0, 4, 2}, 0, -1, 0, 0, 0),
			told{[]api.Span{span(1, 3), no, span(3, 3), span(0, 2), span(2, 3)}, 8, 24}},
		{"one that is not kept takes an image ahead of another", five(), of([]int{0, 2, 3, 4}, 0, -1, 30, 0, 0),
			told{[]api.Span{span(0, 3), no, span(1, 1), span(2, 3), span(3, 3)}, 38, 24}},
		{"all", five(), of([]int{0, 1, 2, 3, 4}, 0, 0, 0, 0, 0),
			told{[]api.Span{span(0, 4), span(1, 1), span(2, 2), span(3, 4), span(4, 4)}, 8, 24}},
		{"all, from behind as far as may be", five(), of([]int{3, 1, 0, 4, 2}, 0, 4096, 0, 0, 0),
			told{[]api.Span{span(2, 4), span(1, 1), span(4, 4), span(0, 3), span(3, 4)}, 4104, 24}},
		{"shown, and taken too", early, of([]int{0, 2}, 3, -1, 5, -1, -1),
			told{[]api.Span{span(0, 1), no, span(1, 1), no, no}, 13, 16}},
		{"shown, taken ahead of the end", early, of([]int{0, 2, 3, 1}, 3, 9, 5, 7, -1),
			told{[]api.Span{span(0, 3), span(3, 3), span(1, 1), span(2, 2), no}, 17, 16}},
		{"shown alone", early, of([]int{0}, 0, -1, -1, -1, -1),
			told{[]api.Span{span(0, 0), no, no, no, no}, 8, 8}},
		{"shown last", early, of([]int{3, 1, 0}, 0, 0, -1, 0, -1),
			told{[]api.Span{span(2, 2), span(1, 1), no, span(0, 0), no}, 8, 8}},
		{"a later image for the same slot", five(), of([]int{0, 1, 3, 4}, 0, 1, -1, 2, 3),
			told{[]api.Span{span(0, 3), span(1, 1), no, span(2, 3), span(3, 3)}, 11, 24}},
		{"sizes", func() api.Frame { f := sizes(); f.Out = 3; return f }(), of([]int{0, 1, 2, 5}, 0, 16, 20, -1, -1, 0),
			told{[]api.Span{span(0, 1), span(1, 2), span(2, 3), no, no, span(3, 3)}, 21, 20}},
		{"sizes, with all that is not kept", sizes(), of([]int{0, 1, 2, 3, 4, 5}, 10, 40, 100, 200, 300, 2),
			told{[]api.Span{span(0, 4), span(1, 2), span(2, 5), span(3, 3), span(4, 5), span(5, 5)}, 316, 33}},
		{"taken twice by one", sizes(), of([]int{0, 4}, 0, -1, -1, -1, 7, -1),
			told{[]api.Span{span(0, 1), no, no, no, span(1, 1), no}, 23, 32}},
	} {
		if got, e := asked(t, x.f, x.p); e != api.OK || !reflect.DeepEqual(got, x.want) {
			t.Errorf("%s: it is %v, %d, must be %v", x.name, got, e, x.want)
		}
	}
}

// E1, E2: plans that are not in order.
func TestNotInOrder(t *testing.T) {
	for _, x := range []struct {
		name string
		p    api.Plan
	}{
		{"nothing", api.Plan{}},
		{"no order", of(nil, 0, 0, 0, 0, 0)},
		{"no order, no places", of(nil, -1, -1, -1, -1, -1)},
		{"no places", of([]int{0, 3, 4})},
		{"a place too few", of([]int{0, 3, 4}, 8, -1, -1, 0)},
		{"a place too many", of([]int{0, 3, 4}, 8, -1, -1, 0, 20, -1)},
		{"places of the order alone", of([]int{0, 3, 4}, 8, 0, 20)},
		{"no pass", of([]int{0, 3, 4, 5}, 8, -1, -1, 0, 20)},
		{"no pass, below 0", of([]int{-1, 0, 3, 4}, 8, -1, -1, 0, 20)},
		{"no pass, far above", of([]int{0, 3, 4, math.MaxInt}, 8, -1, -1, 0, 20)},
		{"no pass, far below", of([]int{0, 3, 4, math.MinInt}, 8, -1, -1, 0, 20)},
		{"twice", of([]int{0, 3, 0, 4}, 8, -1, -1, 0, 20)},
		{"twice, at the end", of([]int{0, 3, 4, 4}, 8, -1, -1, 0, 20)},
		{"one that is not kept, twice", of([]int{1, 1, 0, 3, 4}, 8, 0, -1, 0, 20)},
		{"twice, instead of one that is kept", of([]int{0, 0, 4}, 8, -1, -1, 0, 20)},
		{"far too long", of(slices.Repeat([]int{0, 3, 4}, 1000), 8, -1, -1, 0, 20)},
		{"the first one that is kept is missing", of([]int{3, 4}, -1, -1, -1, 0, 20)},
		{"one that is kept is missing", of([]int{0, 4}, 8, -1, -1, -1, 20)},
		{"the last one is missing", of([]int{0, 3}, 8, -1, -1, 0, -1)},
		{"those that are not kept alone", of([]int{0, 1, 2}, 0, 8, 16, -1, -1)},
		{"ahead of what it takes from A", of([]int{3, 4, 0}, 8, -1, -1, 0, 20)},
		{"ahead of what it takes from B", of([]int{0, 4, 3}, 8, -1, -1, 0, 20)},
		{"from behind", of([]int{4, 3, 0}, 8, -1, -1, 0, 20)},
		{"one that is not kept, ahead of what it takes", of([]int{2, 0, 3, 4}, 8, -1, 40, 0, 20)},
		{"in it, with no place", of([]int{0, 3, 4}, 8, -1, -1, 0, -1)},
		{"in it, with no place, the first one", of([]int{0, 3, 4}, -1, -1, -1, 0, 20)},
		{"not kept, but in it, with no place", of([]int{1, 0, 3, 4}, 8, -1, -1, 0, 20)},
		{"not in it, with a place", of([]int{0, 3, 4}, 8, 0, -1, 0, 20)},
		{"not in it, with another place that is none", of([]int{0, 3, 4}, 8, -1, -2, 0, 20)},
		{"not in it, far below", of([]int{0, 3, 4}, 8, -1, math.MinInt, 0, 20)},
		{"a place below 0", of([]int{0, 3, 4}, -2, -1, -1, 0, 20)},
		{"a place far below 0", of([]int{0, 3, 4}, math.MinInt, -1, -1, 0, 20)},
		{"a place above the arena", of([]int{0, 3, 4}, 4097, -1, -1, 0, 20)},
		{"a place far above the arena", of([]int{0, 3, 4}, math.MaxInt, -1, -1, 0, 20)},
		{"a place that would wrap round", of([]int{0, 3, 4}, math.MaxInt-6, -1, -1, 0, 20)},
	} {
		if _, e := asked(t, five(), x.p); e != api.ErrForm {
			t.Errorf("%s: error %d, must be ErrForm", x.name, e)
		}
		if e := Check(five(), x.p, 0); e != api.ErrForm {
			t.Errorf("%s, in no room: error %d, must be ErrForm", x.name, e)
		}
	}
	// What one takes that is not kept must be in the order too.
	f := five()
	f.Out = 1
	if _, e := asked(t, f, of([]int{3, 2}, -1, -1, 8, 0, -1)); e != api.ErrForm {
		t.Errorf("what it takes is missing: error %d", e)
	}
	if _, e := asked(t, f, of([]int{3, 0, 2}, 0, -1, 8, 0, -1)); e != api.OK {
		t.Errorf("what it takes is there: error %d", e)
	}
}

// E1, E2: which plans fit.
func TestFits(t *testing.T) {
	three := []int{0, 3, 4}
	early := five()
	early.Out = 0
	for _, x := range []struct {
		name string
		f    api.Frame
		p    api.Plan
		room int // the least one in which it fits; -1: it does so in none
	}{
		{"example 5", five(), of(three, 8, -1, -1, 0, 20), 28},
		{"side by side", five(), of(three, 0, -1, -1, 8, 16), 24},
		{"side by side, the other way", five(), of(three, 16, -1, -1, 8, 0), 24},
		{"with gaps", five(), of(three, 100, -1, -1, 1, 40), 108},
		{"at the arena's end", five(), of(three, 4088, -1, -1, 8, 16), 4096},
		{"one number beyond the arena", five(), of(three, 4089, -1, -1, 8, 16), -1},
		{"wholly beyond the arena", five(), of(three, 4096, -1, -1, 8, 16), -1},
		{"one number in common", five(), of(three, 0, -1, -1, 7, 16), -1},
		{"one number in common, the other way", five(), of(three, 7, -1, -1, 0, 16), -1},
		{"what is taken and what is made", five(), of(three, 0, -1, -1, 8, 15), -1},
		{"what is made in the place of what is taken", five(), of(three, 0, -1, -1, 8, 8), -1},
		{"all in one place", five(), of(three, 0, -1, -1, 0, 0), -1},
		{"one that is done with, under another", five(), of([]int{1, 0, 3, 4}, 0, 0, -1, 8, 16), 24},
		{"one that is done with, under two others", five(), of([]int{1, 0, 3, 4}, 0, 4, -1, 8, 16), 24},
		{"at its own step it must not be touched", five(), of([]int{0, 1, 3, 4}, 0, 7, -1, 8, 16), -1},
		{"one that comes in between, under a later one", five(), of([]int{0, 1, 3, 4}, 0, 8, -1, 8, 16), 24},
		{"shown, under one that comes later", five(), of([]int{0, 3, 4, 1}, 0, 16, -1, 8, 16), -1},
		{"shown, beside one that comes later", five(), of([]int{0, 3, 4, 1}, 0, 0, -1, 8, 16), 24},
		{"shown, and taken last", early, of([]int{0, 2}, 0, -1, 8, -1, -1), 16},
		{"shown, needed to the end", early, of([]int{0, 2, 1, 3}, 0, 8, 8, 8, -1), 16},
		{"shown, and not only until it is taken", early, of([]int{0, 2, 1}, 0, 7, 8, -1, -1), -1},
		{"sizes", sizes(), of([]int{0, 1, 2, 4, 5}, 4, 0, 20, -1, 21, 0), 37},
		{"small ones in the room of a great one", sizes(), of([]int{0, 4, 1, 2, 5}, 16, 32, 36, -1, 0, 37), 38},
		{"a small one within a great one", sizes(), of([]int{0, 4, 1, 2, 5}, 16, 20, 36, -1, 0, 37), -1},
	} {
		for _, room := range []int{0, 1, 7, 8, 15, 16, 23, 24, 27, 28, x.room - 1, x.room, x.room + 1, 200, 4095, 4096} {
			if room < 0 || room > api.MaxArena {
				continue
			}
			want := api.ErrFull
			if x.room >= 0 && room >= x.room {
				want = api.OK
			}
			if e := Check(x.f, x.p, room); e != want {
				t.Errorf("%s, in room %d: error %d, must be %d", x.name, room, e, want)
			}
		}
	}
	f := five()
	f.W, f.H, f.Out, f.Passes = 16, 16, 0, f.Passes[:1]
	if peak, e := Peak(f, of([]int{0}, 4096)); peak != 4352 || e != api.OK {
		t.Errorf("Peak beyond the arena is %d, %d", peak, e)
	}
}

// E2: the error that is named first.
func TestFirstError(t *testing.T) {
	right, wrong, full := of([]int{0, 3, 4}, 8, -1, -1, 0, 20), of([]int{4, 3, 0}, 8, -1, -1, 0, 20), of([]int{0, 3, 4}, 8, -1, -1, 0, 4)
	for _, room := range []int{math.MinInt, -1, 4097, 1 << 32, math.MaxInt} {
		for _, p := range []api.Plan{right, wrong, full, {}} {
			if e := Check(five(), p, room); e != api.ErrRange {
				t.Errorf("room %d, %v: error %d, must be ErrRange", room, p, e)
			}
		}
	}
	for _, x := range []struct {
		name string
		turn func(f *api.Frame)
		want api.Errno
	}{
		{"columns", func(f *api.Frame) { f.W = 17 }, api.ErrRange},
		{"no pass", func(f *api.Frame) { f.Passes = nil }, api.ErrMany},
		{"too many", func(f *api.Frame) { f.Passes = slices.Repeat(f.Passes, 3) }, api.ErrMany},
		{"kind", func(f *api.Frame) { f.Passes[1].Op = 14 }, api.ErrKind},
		{"form", func(f *api.Frame) { f.Passes[1].A = 1 }, api.ErrForm},
		{"none", func(f *api.Frame) { f.Out = 1; f.Passes = f.Passes[:1] }, api.ErrNone},
		{"size", func(f *api.Frame) { f.W = 9; f.Passes[2].Op = api.Up }, api.ErrSize},
		{"all of it", func(f *api.Frame) { *f = api.Frame{} }, api.ErrRange},
	} {
		f := five()
		x.turn(&f)
		for _, p := range []api.Plan{right, wrong, full, {}} {
			if _, e := asked(t, f, p); e != x.want {
				t.Errorf("%s, %v: error %d, must be %d", x.name, p, e, x.want)
			}
			for _, room := range []int{-1, 0, 24, 4096, 4097} {
				if e := Check(f, p, room); e != x.want {
					t.Errorf("%s, %v, room %d: error %d, must be %d", x.name, p, room, e, x.want)
				}
			}
		}
	}
	both := of([]int{0, 3, 4}, 8, -2, -1, 0, 4)
	if e := Check(five(), both, 0); e != api.ErrForm {
		t.Errorf("neither in order nor fit: error %d, must be ErrForm", e)
	}
}

// P2: what is handed in is only read, and an answer is new memory.
func TestMemory(t *testing.T) {
	f := five()
	f.Passes = append(f.Passes, api.Pass{Op: -7})[:5]
	p := api.Plan{Order: []int{0, 3, 4, -7, -7}[:3], Places: []int{8, -1, -1, 0, 20, -7, -7}[:5]}
	one, _ := Spans(f, p)
	two, _ := Spans(f, p)
	Check(f, p, 28)
	Peak(f, p)
	Floor(f, p)
	if !slices.Equal(p.Order[:5], []int{0, 3, 4, -7, -7}) || !slices.Equal(p.Places[:7], []int{8, -1, -1, 0, 20, -7, -7}) ||
		f.Passes[:6][5].Op != -7 || !reflect.DeepEqual(f.Passes, five().Passes) {
		t.Errorf("what was handed in was changed: %v, %v", f, p)
	}
	want := slices.Clone(one)
	clear(p.Order)
	clear(p.Places)
	clear(f.Passes)
	if !slices.Equal(one, want) || !slices.Equal(two, want) {
		t.Errorf("what was handed in was kept")
	}
	clear(one[:cap(one)])
	if !slices.Equal(two, want) {
		t.Errorf("two answers share memory")
	}
}
