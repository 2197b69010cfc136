package need

import (
	"math"
	"reflect"
	"slices"
	"testing"

	"underpaint/api"
	"underpaint/frame"
)

// five is the frame of the document's example 3.
func five() api.Frame {
	return api.Frame{W: 4, H: 2, Slots: 3, Out: 2, Passes: []api.Pass{
		{Op: api.Ramp, To: 0, K: 100},
		{Op: api.Fill, To: 1, K: 7},
		{Op: api.Blur, To: 2, A: 0},
		{Op: api.Fill, To: 1, K: 9},
		{Op: api.Add, To: 2, A: 0, B: 1},
	}}
}

func fill(to int) api.Pass { return api.Pass{Op: api.Fill, To: to, K: to + 1} }

func copied(to, a int) api.Pass { return api.Pass{Op: api.Copy, To: to, A: a} }

func sum(to, a, b int) api.Pass { return api.Pass{Op: api.Add, To: to, A: a, B: b} }

func of(out int, passes ...api.Pass) api.Frame {
	return api.Frame{W: 2, H: 2, Slots: 4, Out: out, Passes: passes}
}

// numbers of those that are true.
func numbers(kept []bool) []int {
	var n []int
	for i, k := range kept {
		if k {
			n = append(n, i)
		}
	}
	return n
}

// picked is the frame with some of its passes alone.
func picked(f api.Frame, which []int) api.Frame {
	old := f.Passes
	f.Passes = nil
	for _, i := range which {
		f.Passes = append(f.Passes, old[i])
	}
	return f
}

// alike: an empty list may be nil or not.
func alike(f, g api.Frame) bool {
	return f.W == g.W && f.H == g.H && f.Slots == g.Slots && f.Out == g.Out && slices.EqualFunc(f.Passes, g.Passes, func(p, q api.Pass) bool {
		same := slices.Equal(p.Lights, q.Lights)
		p.Lights, q.Lights = nil, nil
		return same && reflect.DeepEqual(p, q)
	})
}

// D1.
func TestKept(t *testing.T) {
	lit := api.Pass{Op: api.Lit, To: 2, A: 1, K: 3, Lights: []api.Light{{X: 1, Y: 1, Reach: 2, Power: 9}, {Reach: 1}}}
	for _, x := range []struct {
		name string
		f    api.Frame
		last int
		kept []int
	}{
		{"example 4", five(), 4, []int{0, 3, 4}},
		{"one pass", of(1, fill(1)), 0, []int{0}},
		{"none of the others", of(1, fill(0), fill(1), fill(2)), 1, []int{1}},
		{"made anew", of(1, fill(1), fill(1), fill(1)), 2, []int{2}},
		{"a row of them", of(3, fill(0), copied(1, 0), copied(2, 1), copied(3, 2)), 3, []int{0, 1, 2, 3}},
		{"the row, from its midst", of(2, fill(0), copied(1, 0), copied(2, 1), copied(3, 2)), 2, []int{0, 1, 2}},
		{"taken by one that is not kept", of(3, fill(0), copied(1, 0), copied(2, 1), fill(3)), 3, []int{3}},
		{"taken by both kinds", of(3, fill(0), copied(1, 0), copied(3, 0)), 2, []int{0, 2}},
		{"A and B", of(3, fill(0), fill(1), fill(2), sum(3, 2, 0)), 3, []int{0, 2, 3}},
		{"A and B the same", of(3, fill(0), fill(1), sum(3, 1, 1)), 2, []int{1, 2}},
		{"the slot is made anew behind its taking", of(3, fill(0), copied(3, 0), fill(0)), 1, []int{0, 1}},
		{"the slot is made anew ahead of its taking", of(3, fill(0), fill(0), copied(3, 0)), 2, []int{1, 2}},
		{"shown, made out of what was there", of(0, fill(0), copied(1, 0), copied(0, 1)), 2, []int{0, 1, 2}},
		{"shown, and taken later in vain", of(0, fill(0), copied(1, 0), sum(2, 0, 1)), 0, []int{0}},
		{"slot 0, which Fill has not as A", of(1, fill(0), fill(1)), 1, []int{1}},
		{"slot 0, which Copy has not as B", of(2, fill(0), fill(1), copied(2, 1)), 2, []int{1, 2}},
		{"lit", of(2, fill(0), fill(1), lit, copied(3, 2)), 2, []int{1, 2}},
		{"twelve", of(0, fill(0), fill(1), sum(2, 0, 1), copied(0, 2), sum(3, 0, 1), copied(1, 3), fill(3), copied(2, 1), fill(1), copied(0, 2), copied(3, 0), sum(1, 0, 3)), 9, []int{0, 1, 2, 3, 4, 5, 7, 9}},
	} {
		if n, e := Last(x.f); n != x.last || e != api.OK {
			t.Errorf("%s: Last is %d, %d, must be %d", x.name, n, e, x.last)
		}
		kept, e := Kept(x.f)
		if len(kept) != len(x.f.Passes) || !slices.Equal(numbers(kept), x.kept) || e != api.OK {
			t.Errorf("%s: Kept is %v, %d, must be %v", x.name, kept, e, x.kept)
		}
		culled, e := Cull(x.f)
		if want := picked(x.f, x.kept); !alike(culled, want) || e != api.OK {
			t.Errorf("%s: Cull is %v, %d, must be %v", x.name, culled, e, want)
		}
		sameShown(t, x.f, culled)
	}
}

// sameShown (D2): the culled frame shows what the frame shows, and Cull once more changes nothing.
func sameShown(t *testing.T, f, culled api.Frame) {
	t.Helper()
	a, e := frame.Render(f)
	b, e2 := frame.Render(culled)
	if e != api.OK || e2 != api.OK || !reflect.DeepEqual(a, b) {
		t.Fatalf("%v shows %v, %d; culled, %v, %d", f, a, e, b, e2)
	}
	again, e := Cull(culled)
	if !alike(again, culled) || e != api.OK {
		t.Fatalf("%v, culled once more, is %v, %d", culled, again, e)
	}
	kept, e := Kept(culled)
	if slices.Contains(kept, false) || e != api.OK {
		t.Fatalf("of %v, which is culled, Kept is %v, %d", culled, kept, e)
	}
}

// D1: frame.Check's errors, and nothing else with them.
func TestErrors(t *testing.T) {
	for _, x := range []struct {
		name string
		turn func(f *api.Frame)
		want api.Errno
	}{
		{"columns", func(f *api.Frame) { f.W = 0 }, api.ErrRange},
		{"rows", func(f *api.Frame) { f.H = math.MaxInt }, api.ErrRange},
		{"slots", func(f *api.Frame) { f.Slots = 9 }, api.ErrRange},
		{"out", func(f *api.Frame) { f.Out = 3 }, api.ErrRange},
		{"out below 0", func(f *api.Frame) { f.Out = math.MinInt }, api.ErrRange},
		{"no pass", func(f *api.Frame) { f.Passes = nil }, api.ErrMany},
		{"too many passes", func(f *api.Frame) { f.Passes = slices.Repeat(f.Passes, 3) }, api.ErrMany},
		{"kind", func(f *api.Frame) { f.Passes[0].Op = 14 }, api.ErrKind},
		{"slot", func(f *api.Frame) { f.Passes[4].B = 3 }, api.ErrRange},
		{"K", func(f *api.Frame) { f.Passes[3].K = -1 }, api.ErrRange},
		{"K of a pass that would not be kept", func(f *api.Frame) { f.Passes[1].K = -1 }, api.ErrRange},
		{"form", func(f *api.Frame) { f.Passes[2].B = 1 }, api.ErrForm},
		{"A is To", func(f *api.Frame) { f.Passes[4].A = 2 }, api.ErrForm},
		{"nothing in A", func(f *api.Frame) { f.Passes[2].A = 1; f.Passes[1].To = 0 }, api.ErrNone},
		{"nothing in Out", func(f *api.Frame) { f.Passes = f.Passes[:2] }, api.ErrNone},
		{"size", func(f *api.Frame) { f.W = 9; f.Passes[2].Op = api.Up }, api.ErrSize},
		{"lights", func(f *api.Frame) {
			f.Passes[2] = api.Pass{Op: api.Lit, To: 2, A: 0, K: 1, Lights: make([]api.Light, 9)}
		}, api.ErrMany},
		{"wrong lights", func(f *api.Frame) {
			f.Passes[2] = api.Pass{Op: api.Lit, To: 2, A: 0, K: 1, Lights: make([]api.Light, 8)}
		}, api.ErrRange},
		{"all of it", func(f *api.Frame) { *f = api.Frame{} }, api.ErrRange},
	} {
		f := five()
		x.turn(&f)
		if n, e := Last(f); n != 0 || e != x.want {
			t.Errorf("%s: Last is %d, %d, must be 0, %d", x.name, n, e, x.want)
		}
		if kept, e := Kept(f); len(kept) != 0 || e != x.want {
			t.Errorf("%s: Kept is %v, %d, must be nothing, %d", x.name, kept, e, x.want)
		}
		if culled, e := Cull(f); !alike(culled, api.Frame{}) || e != x.want {
			t.Errorf("%s: Cull is %v, %d, must be nothing, %d", x.name, culled, e, x.want)
		}
	}
}

// draws are numbers without an order, the same each time.
type draws uint32

func (d *draws) below(n int) int {
	*d = *d*1664525 + 1013904223
	return int(*d>>8) % n
}

func (d *draws) pass(slots int) api.Pass {
	p := api.Pass{Op: 1 + d.below(api.Lit), To: d.below(slots)}
	switch p.Op {
	case api.Fill, api.Ramp:
		p.K = d.below(api.Top + 1)
	case api.Copy, api.Blur, api.Down, api.Up:
		p.A = d.below(slots)
	case api.Cut, api.Shift:
		p.A, p.K = d.below(slots), d.below(4)
	case api.Lit:
		p.A, p.K = d.below(slots), 1+d.below(4)
		for range d.below(4) {
			p.Lights = append(p.Lights, api.Light{X: d.below(16), Y: d.below(16), Reach: 1 + d.below(32), Power: d.below(20000)})
		}
	default:
		p.A, p.B = d.below(slots), d.below(slots)
	}
	return p
}

// frame that is right: of passes that are drawn those stay with which it goes on being so.
func (d *draws) frame() api.Frame {
	f := api.Frame{W: 4, H: 4, Slots: 1 + d.below(8)}
	f.Out = d.below(f.Slots)
	f.Passes = []api.Pass{{Op: api.Ramp, To: f.Out, K: d.below(api.Top + 1)}}
	for range 60 {
		g := f
		g.Passes = append(slices.Clone(f.Passes), d.pass(f.Slots))
		if len(g.Passes) <= api.MaxPasses && frame.Check(g) == api.OK {
			f = g
		}
	}
	f.Passes = f.Passes[:1+d.below(len(f.Passes))]
	return f
}

// slowKept marks what is kept, as D1 says it, until nothing is new.
func slowKept(f api.Frame) (last int, kept []bool) {
	for i, p := range f.Passes {
		if p.To == f.Out {
			last = i
		}
	}
	sources, _ := frame.Sources(f)
	kept = make([]bool, len(f.Passes))
	for {
		old := slices.Clone(kept)
		for i := range kept {
			kept[i] = kept[i] || i == last
			for j, from := range sources {
				kept[i] = kept[i] || kept[j] && slices.Contains(from, i)
			}
		}
		if slices.Equal(old, kept) {
			return last, kept
		}
	}
}

// D1, D2 of frames that are drawn.
func TestDrawn(t *testing.T) {
	d := draws(5)
	for range 3000 {
		f := d.frame()
		last, kept := slowKept(f)
		if n, e := Last(f); n != last || e != api.OK {
			t.Fatalf("%v: Last is %d, %d, must be %d", f, n, e, last)
		}
		if k, e := Kept(f); !slices.Equal(k, kept) || e != api.OK {
			t.Fatalf("%v: Kept is %v, %d, must be %v", f, k, e, kept)
		}
		culled, e := Cull(f)
		if want := picked(f, numbers(kept)); !alike(culled, want) || e != api.OK {
			t.Fatalf("%v: Cull is %v, %d, must be %v", f, culled, e, want)
		}
		sameShown(t, f, culled)
	}
}

// D2: what a pass that is not kept makes does not matter.
func TestNotKept(t *testing.T) {
	d := draws(8)
	for range 500 {
		f := d.frame()
		kept, _ := Kept(f)
		want, _ := frame.Render(f)
		for i, k := range kept {
			g := f
			g.Passes = slices.Clone(f.Passes)
			if op := g.Passes[i].Op; !k && (op == api.Fill || op == api.Ramp) {
				g.Passes[i].K = d.below(api.Top + 1)
				g.Passes[i].Op = api.Fill + api.Ramp - op
			}
			if a, e := frame.Render(g); !reflect.DeepEqual(a, want) || e != api.OK {
				t.Fatalf("%v shows %v, %d, must show %v", g, a, e, want)
			}
		}
	}
}

// roomy is the same frame, with spare room behind each list, which no call may touch.
func roomy(f api.Frame) api.Frame {
	spare := api.Pass{Op: -7, To: -7, Lights: []api.Light{{X: -7}}}
	passes := append(make([]api.Pass, 0, len(f.Passes)+2), f.Passes...)
	for i, p := range passes {
		passes[i].Lights = append(append(make([]api.Light, 0, len(p.Lights)+2), p.Lights...), api.Light{X: -7}, api.Light{Y: -7})[:len(p.Lights)]
	}
	f.Passes = append(passes, spare, spare)[:len(f.Passes)]
	return f
}

// wipe all that a frame's lists have, the spare room too.
func wipe(f api.Frame) {
	for _, p := range f.Passes {
		clear(p.Lights[:cap(p.Lights)])
	}
	clear(f.Passes[:cap(f.Passes)])
}

func untouched(f, g api.Frame) bool {
	if !reflect.DeepEqual(f.Passes[:cap(f.Passes)], g.Passes[:cap(g.Passes)]) {
		return false
	}
	for i, p := range f.Passes {
		q := g.Passes[i]
		if !slices.Equal(p.Lights[:cap(p.Lights)], q.Lights[:cap(q.Lights)]) {
			return false
		}
	}
	return f.W == g.W && f.H == g.H && f.Slots == g.Slots && f.Out == g.Out
}

// P2: what is handed in is only read, an answer is new memory, and no two lists of it share any.
func TestMemory(t *testing.T) {
	d := draws(6)
	for range 500 {
		drawn := d.frame()
		f := roomy(drawn)
		_, want := slowKept(drawn)
		wantCulled := roomy(picked(drawn, numbers(want)))
		Last(f)
		kept, _ := Kept(f)
		culled, _ := Cull(f)
		if !untouched(f, roomy(drawn)) {
			t.Fatalf("%v was changed", drawn)
		}
		kept2, _ := Kept(f)
		culled2, _ := Cull(f)
		wipe(f)
		if !slices.Equal(kept, want) || !slices.Equal(kept2, want) || !alike(culled, wantCulled) || !alike(culled2, wantCulled) {
			t.Fatalf("%v: it is %v, %v, then %v, %v", drawn, kept, culled, kept2, culled2)
		}
		clear(kept[:cap(kept)])
		for i, p := range culled.Passes {
			clear(p.Lights[:cap(p.Lights)])
			for j := i + 1; j < len(culled.Passes); j++ {
				if !slices.Equal(culled.Passes[j].Lights, wantCulled.Passes[j].Lights) {
					t.Fatalf("%v: lights of two passes share memory", drawn)
				}
			}
		}
		clear(culled.Passes[:cap(culled.Passes)])
		if !slices.Equal(kept2, want) || !alike(culled2, wantCulled) {
			t.Fatalf("%v: two answers share memory", drawn)
		}
	}
}

// P2: passes that are handed in with the same lights have lights of their own in the answer.
func TestSharedLights(t *testing.T) {
	l := []api.Light{{X: 1, Y: 1, Reach: 2, Power: 9}}
	f := of(2, fill(0), api.Pass{Op: api.Lit, To: 1, A: 0, K: 1, Lights: l}, api.Pass{Op: api.Lit, To: 2, A: 1, K: 1, Lights: l})
	culled, e := Cull(f)
	if e != api.OK || len(culled.Passes) != 3 {
		t.Fatalf("Cull is %v, %d", culled, e)
	}
	culled.Passes[1].Lights[0].X = 5
	if culled.Passes[2].Lights[0].X != 1 || l[0].X != 1 {
		t.Errorf("lights share memory")
	}
}

// Ways: passes are gone through from behind by a loop over a function, which may be left.
func TestFromBehind(t *testing.T) {
	passes := []api.Pass{fill(0), fill(1), fill(2), fill(3)}
	var seen []int
	for i, p := range fromBehind(passes) {
		if p.To != i {
			t.Errorf("with number %d comes the pass %v", i, p)
		}
		seen = append(seen, i)
	}
	if !slices.Equal(seen, []int{3, 2, 1, 0}) {
		t.Errorf("the passes come as %v", seen)
	}
	for i := range fromBehind(passes) {
		if i < 2 {
			t.Errorf("pass %d comes when the loop has been left", i)
		}
		if i == 2 {
			break
		}
	}
	for range fromBehind(nil) {
		t.Errorf("of no passes one comes")
	}
}
