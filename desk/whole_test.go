package desk_test

import (
	"fmt"
	"reflect"
	"slices"
	"strings"
	"testing"

	"underpaint/api"
	"underpaint/desk"
	"underpaint/exec"
	"underpaint/fit"
	"underpaint/frame"
	"underpaint/plan"
	"underpaint/wire"
)

// samePlan: what package plan tells of a plan is what the slow reading tells (E1, E2), and E3 holds.
func samePlan(t *testing.T, f api.Frame, p api.Plan, rooms ...int) api.Errno {
	t.Helper()
	for _, room := range rooms {
		got, want := plan.Check(f, p, room), slowCheck(f, p, room)
		if got != want {
			t.Fatalf("%v, %v, room %d: Check is %d, must be %d", f, p, room, got, want)
		}
	}
	spans, e := plan.Spans(f, p)
	peak, e1 := plan.Peak(f, p)
	floor, e2 := plan.Floor(f, p)
	if !inOrder(f, p) {
		if e != api.ErrForm || e1 != e || e2 != e || len(spans) > 0 || peak != 0 || floor != 0 {
			t.Fatalf("%v, %v: it is %v %d, %d %d, %d %d, must be ErrForm alone", f, p, spans, e, peak, e1, floor, e2)
		}
		return api.ErrForm
	}
	if e != api.OK || e1 != api.OK || e2 != api.OK || !slices.Equal(spans, slowSpans(f, p)) || peak != slowPeak(f, p) || floor != slowFloor(f, p) {
		t.Fatalf("%v, %v: it is %v %d, %d %d, %d %d, must be %v, %d, %d", f, p, spans, e, peak, e1, floor, e2, slowSpans(f, p), slowPeak(f, p), slowFloor(f, p))
	}
	if e := plan.Check(f, p, api.MaxArena); e != api.OK {
		return e
	}
	if peak < floor {
		t.Fatalf("%v, %v fits, but its Peak, %d, is below its Floor, %d", f, p, peak, floor)
	}
	return api.OK
}

// E1, E2, E3: no plan that fits has a Peak below its Floor.
func TestPlans(t *testing.T) {
	d := draws(1)
	seen := map[api.Errno]int{}
	for range 1500 {
		f := d.frame()
		p := d.plan(f)
		peak := slowPeak(f, p)
		if e := samePlan(t, f, p, -1, 0, peak-1, peak, peak+1, 4096, 4097); e != api.OK {
			t.Fatalf("%v, %v: error %d", f, p, e)
		}
		for range 6 {
			q := d.spoil(p)
			if d.below(3) == 0 {
				q = d.spoil(q)
			}
			seen[samePlan(t, f, q, peak-1, peak, 4096, d.below(4097))]++
		}
	}
	for _, e := range []api.Errno{api.OK, api.ErrForm, api.ErrFull} {
		if seen[e] < 200 {
			t.Errorf("of what was spoilt, %d was told %d times only", e, seen[e])
		}
	}
}

// F2, F3: what is compiled fits, in as little room as F3 says.
func TestCompiled(t *testing.T) {
	d := draws(2)
	oneSize := 0
	for range 1500 {
		f := d.frame()
		p, e := fit.Compile(f)
		if want := slowCompile(f); e != api.OK || !reflect.DeepEqual(p, want) {
			t.Fatalf("%v is compiled as %v, %d, must be %v", f, p, e, want)
		}
		peak := slowPeak(f, p)
		if e := samePlan(t, f, p, peak-1, peak, 4096); e != api.OK {
			t.Fatalf("%v, %v: error %d", f, p, e)
		}
		if plan.Check(f, p, peak) != api.OK || plan.Check(f, p, peak-1) != api.ErrFull {
			t.Fatalf("%v, %v does not fit just in its Peak", f, p)
		}
		all, same := 0, true
		for _, i := range p.Order {
			all += numbers(f, i)
			same = same && numbers(f, i) == numbers(f, p.Order[0])
		}
		if peak > all || same && peak != slowFloor(f, p) {
			t.Fatalf("%v, %v: Peak is %d, Floor %d, all together %d", f, p, peak, slowFloor(f, p), all)
		}
		if same {
			oneSize++
		}
	}
	if oneSize < 100 {
		t.Errorf("%d of one size only", oneSize)
	}
}

// F3: if all images have one size, no plan of the order fits in less room.
func TestNoLess(t *testing.T) {
	d := draws(3)
	tried := 0
	for tried < 60 {
		f := d.frame()
		f.W, f.H = 1, 1
		p, e := fit.Compile(f)
		if e != api.OK || len(p.Order) > 5 {
			continue
		}
		if slices.ContainsFunc(p.Order, func(i int) bool { return numbers(f, i) != 1 }) {
			continue
		}
		tried++
		peak := slowPeak(f, p)
		q := api.Plan{Order: p.Order, Places: slices.Clone(p.Places)}
		var try func(n int)
		try = func(n int) {
			if n == len(q.Order) {
				if e := plan.Check(f, q, peak-1); e != api.ErrFull {
					t.Fatalf("%v: %v takes %d, but %v fits in less: %d", f, p, peak, q, e)
				}
				return
			}
			for q.Places[q.Order[n]] = 0; q.Places[q.Order[n]] < peak; q.Places[q.Order[n]]++ {
				try(n + 1)
			}
		}
		try(0)
	}
}

// G1, G2: whatever plan fits, and whatever lay in the arena, what is shown is the same.
func TestShownIsTheSame(t *testing.T) {
	d := draws(4)
	for range 800 {
		f := d.frame()
		want, _ := frame.Render(f)
		compiled, _ := fit.Compile(f)
		for _, p := range []api.Plan{compiled, d.plan(f), d.plan(f)} {
			peak := slowPeak(f, p)
			arena := d.arena(min(api.MaxArena, peak+d.below(9)))
			for _, a := range [][]int{arena, make([]int, peak)} {
				if got, e := exec.Run(f, p, a); e != api.OK || !reflect.DeepEqual(got, want) {
					t.Fatalf("%v, %v: it is %v, %d, must be %v", f, p, got, e, want)
				}
			}
			stepByStep(t, f, p, arena, want)
			if _, e := exec.Run(f, p, arena[:peak-1]); e != api.ErrFull {
				t.Fatalf("%v, %v: in less room it is error %d", f, p, e)
			}
			q := d.spoil(p)
			_, e := exec.Run(f, q, arena)
			_, e1 := exec.Step(f, q, arena, 0)
			if want := slowCheck(f, q, len(arena)); e != want || e1 != want {
				t.Fatalf("%v, %v: Run is %d, Step %d, must be %d", f, q, e, e1, want)
			}
		}
	}
}

// stepByStep: each step changes nothing but where its image lies, which is then as it is in a frame that ends there.
func stepByStep(t *testing.T, f api.Frame, p api.Plan, arena []int, want api.Image) {
	t.Helper()
	for n, i := range p.Order {
		next, e := exec.Step(f, p, arena, n)
		if e != api.OK || len(next) != len(arena) {
			t.Fatalf("%v, %v: step %d is %v, %d", f, p, n, next, e)
		}
		until := f
		until.Passes, until.Out = f.Passes[:i+1], f.Passes[i].To
		made, _ := frame.Render(until)
		at := numbersOf(f, p, i)
		for k := range next {
			now := arena[k]
			if j := slices.Index(at, k); j >= 0 {
				now = made.P[j]
			}
			if next[k] != now {
				t.Fatalf("%v, %v: behind step %d there is %d at %d, must be %d", f, p, n, next[k], k, now)
			}
		}
		arena = next
	}
	for _, n := range []int{-1, len(p.Order)} {
		if next, e := exec.Step(f, p, arena, n); e != api.ErrRange || len(next) > 0 {
			t.Fatalf("%v, %v: step %d is %v, %d", f, p, n, next, e)
		}
	}
	shown := slices.IndexFunc(p.Order, func(i int) bool { return keptLast(f) == i })
	for j, k := range numbersOf(f, p, p.Order[shown]) {
		if arena[k] != want.P[j] {
			t.Fatalf("%v, %v: in the end what is shown does not lie there", f, p)
		}
	}
}

// keptLast is the last pass that makes something for Out.
func keptLast(f api.Frame) int {
	last := 0
	for i, p := range f.Passes {
		if p.To == f.Out {
			last = i
		}
	}
	return last
}

// H1, H2: what is written is read as it was, and nothing else is.
func TestBytes(t *testing.T) {
	d := draws(5)
	read := 0
	for range 1500 {
		f := d.frame()
		s, e := wire.Write(f)
		if s != slowWrite(f) || e != api.OK {
			t.Fatalf("%v is written as %q, %d, must be %q", f, s, e, slowWrite(f))
		}
		if g, e := wire.Read(s); e != api.OK || fmt.Sprint(g) != fmt.Sprint(f) {
			t.Fatalf("%v is read as %v, %d", f, g, e)
		}
		for range 10 {
			b := []byte(s)
			switch i := d.below(len(b)); d.below(8) {
			case 0:
				b = slices.Delete(b, i, i+1)
			case 1:
				b = slices.Insert(b, i, byte(d.below(256)))
			case 2:
				b = b[:i]
			case 3:
				b[i] = byte(d.below(256))
			default:
				b[i] = byte(d.below(14))
			}
			if g, e := wire.Read(string(b)); e == api.OK {
				read++
				if frame.Check(g) != api.OK || slowWrite(g) != string(b) {
					t.Fatalf("%q is read as %v", b, g)
				}
			} else if e != api.ErrForm || !reflect.DeepEqual(g, api.Frame{}) {
				t.Fatalf("%q is read as %v, %d", b, g, e)
			}
		}
	}
	if read < 1000 {
		t.Errorf("%d of what was spoilt was read only", read)
	}
}

// I1, I2, I3: the desk shows what the frame shows, with room enough, however much there is.
func TestDesk(t *testing.T) {
	d := draws(6)
	for range 500 {
		f := d.frame()
		a, _ := frame.Render(f)
		var want strings.Builder
		for y := range a.H {
			fmt.Fprintln(&want, strings.Trim(fmt.Sprint(a.P[y*a.W:(y+1)*a.W]), "[]"))
		}
		if s, e := desk.Show(a); s != want.String() || e != api.OK {
			t.Fatalf("%v is shown as %q, %d", a, s, e)
		}
		s := slowWrite(f)
		peak := slowPeak(f, slowCompile(f))
		for _, room := range []int{peak, peak + 1, peak + d.below(100), 4096} {
			if got, e := desk.Draw(s, room); got != want.String() || e != api.OK {
				t.Fatalf("%v, room %d: it is %q, %d, must be %q", f, room, got, e, want.String())
			}
		}
		for _, room := range []int{0, peak - 1, d.below(peak)} {
			if got, e := desk.Draw(s, room); got != "" || e != api.ErrFull {
				t.Fatalf("%v, room %d: it is %q, %d, must be nothing, ErrFull", f, room, got, e)
			}
		}
	}
}

// P1: plans and arenas that nobody would hand in.
func TestWild(t *testing.T) {
	d := draws(7)
	for range 20000 {
		f := api.Frame{W: 2, H: 1, Slots: 3, Out: 1, Passes: []api.Pass{{Op: api.Fill, To: 0, K: 3}, {Op: api.Copy, To: 1, A: 0}, {Op: api.Copy, To: 2, A: 1}}}
		if d.below(8) == 0 {
			f.Passes[d.below(3)].A = d.wild()
		}
		var p api.Plan
		for range d.below(5) {
			p.Order = append(p.Order, d.wild())
		}
		for range d.below(5) {
			p.Places = append(p.Places, d.wild())
		}
		if d.below(2) == 0 {
			p = api.Plan{Order: []int{0, 1}, Places: []int{d.wild(), d.wild(), -1}}
		}
		room := d.wild()
		want := slowCheck(f, p, room)
		if e := plan.Check(f, p, room); e != want {
			t.Fatalf("%v, %v, room %d: error %d, must be %d", f, p, room, e, want)
		}
		arena := []int{d.wild(), d.wild(), d.wild(), d.wild(), d.wild(), d.wild(), d.wild()}
		want = slowCheck(f, p, len(arena))
		if want == api.OK && (slices.Min(arena) < 0 || slices.Max(arena) > api.Top) {
			want = api.ErrRange
		}
		if _, e := exec.Run(f, p, arena); e != want {
			t.Fatalf("%v, %v, %v: error %d, must be %d", f, p, arena, e, want)
		}
		exec.Step(f, p, arena, d.wild())
		fit.Place([]api.Span{{First: d.wild(), Last: d.wild()}, {First: d.wild(), Last: d.wild()}}, d.wild())
		plan.Spans(f, p)
		plan.Peak(f, p)
		plan.Floor(f, p)
	}
}
