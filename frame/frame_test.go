package frame

import (
	"math"
	"reflect"
	"slices"
	"strings"
	"testing"

	"underpaint/api"
	"underpaint/image"
	"underpaint/light"
)

// five is the frame of the document's example 3.
func five() api.Frame {
	return api.Frame{W: 4, H: 2, Slots: 3, Out: 2, Passes: []api.Pass{
		{Op: api.Ramp, To: 0, K: 100},
		{Op: api.Fill, To: 1, K: 7},
		{Op: api.Blur, To: 2, A: 0},
		{Op: api.Fill, To: 1, K: 9},
		{Op: api.Add, To: 2, A: 0, B: 1},
	}}
}

// asked is what the four calls tell, which must be at one about the error, and tell nothing else with it.
func asked(t *testing.T, f api.Frame) told {
	t.Helper()
	e := Check(f)
	sizes, e1 := Sizes(f)
	sources, e2 := Sources(f)
	shown, e3 := Render(f)
	if e1 != e || e2 != e || e3 != e {
		t.Errorf("%v: Check is %d, Sizes %d, Sources %d, Render %d", f, e, e1, e2, e3)
	}
	if e != api.OK && (len(sizes) > 0 || len(sources) > 0 || !reflect.DeepEqual(shown, api.Image{})) {
		t.Errorf("%v: with error %d it is %v, %v, %v", f, e, sizes, sources, shown)
	}
	return told{e, sizes, sources, shown}
}

func fails(t *testing.T, name string, f api.Frame, want api.Errno) {
	t.Helper()
	if got := asked(t, f); got.e != want {
		t.Errorf("%s: %v: error %d, must be %d", name, f, got.e, want)
	}
}

// alike: an empty list may be nil or not.
func alike(a, b told) bool {
	return a.e == b.e && slices.Equal(a.sizes, b.sizes) && slices.EqualFunc(a.sources, b.sources, slices.Equal) && reflect.DeepEqual(a.shown, b.shown)
}

func right(t *testing.T, name string, f api.Frame, sizes []api.Size, sources [][]int, shown api.Image) {
	t.Helper()
	if got, want := asked(t, f), (told{api.OK, sizes, sources, shown}); !alike(got, want) {
		t.Errorf("%s: it is %v, must be %v", name, got, want)
	}
}

// C3, example 3.
func TestExample(t *testing.T) {
	s := api.Size{W: 4, H: 2}
	right(t, "example 3", five(), []api.Size{s, s, s, s, s}, [][]int{{}, {}, {0}, {}, {0, 3}},
		api.Image{W: 4, H: 2, P: []int{9, 109, 209, 309, 10, 110, 210, 310}})
	f := five()
	f.Out = 1
	right(t, "another slot is shown", f, []api.Size{s, s, s, s, s}, [][]int{{}, {}, {0}, {}, {0, 3}},
		api.Image{W: 4, H: 2, P: []int{9, 9, 9, 9, 9, 9, 9, 9}})
}

// C2, C3: each operation, in its own place.
func TestEachOperation(t *testing.T) {
	ramp, _ := image.Make(api.Ramp, 4, 2, 30000)
	fill, _ := image.Make(api.Fill, 4, 2, 20000)
	l := []api.Light{{X: 1, Y: 1, Reach: 3, Power: 6000}}
	one := func(op, k int) api.Image { a, _ := image.One(op, ramp, k); return a }
	two := func(op int, a, b api.Image) api.Image { a, _ = image.Two(op, a, b); return a }
	lit, _ := light.Lit(ramp, l, 2)
	for _, x := range []struct {
		p       api.Pass
		sources []int
		want    api.Image
	}{
		{api.Pass{Op: api.Fill, To: 2, K: 20000}, nil, fill},
		{api.Pass{Op: api.Ramp, To: 2, K: 30000}, nil, ramp},
		{api.Pass{Op: api.Copy, To: 2, A: 0}, []int{0}, ramp},
		{api.Pass{Op: api.Add, To: 2, A: 0, B: 1}, []int{0, 1}, two(api.Add, ramp, fill)},
		{api.Pass{Op: api.Sub, To: 2, A: 0, B: 1}, []int{0, 1}, two(api.Sub, ramp, fill)},
		{api.Pass{Op: api.Sub, To: 2, A: 1, B: 0}, []int{1, 0}, two(api.Sub, fill, ramp)},
		{api.Pass{Op: api.Sub, To: 2, A: 1, B: 1}, []int{1, 1}, two(api.Sub, fill, fill)},
		{api.Pass{Op: api.Mul, To: 2, A: 0, B: 1}, []int{0, 1}, two(api.Mul, ramp, fill)},
		{api.Pass{Op: api.Most, To: 2, A: 0, B: 1}, []int{0, 1}, two(api.Most, ramp, fill)},
		{api.Pass{Op: api.Cut, To: 2, A: 0, K: 30000}, []int{0}, one(api.Cut, 30000)},
		{api.Pass{Op: api.Shift, To: 2, A: 0, K: -2}, []int{0}, one(api.Shift, -2)},
		{api.Pass{Op: api.Blur, To: 2, A: 0}, []int{0}, one(api.Blur, 0)},
		{api.Pass{Op: api.Down, To: 2, A: 0}, []int{0}, one(api.Down, 0)},
		{api.Pass{Op: api.Up, To: 2, A: 0}, []int{0}, one(api.Up, 0)},
		{api.Pass{Op: api.Lit, To: 2, A: 0, K: 2, Lights: l}, []int{0}, lit},
		{api.Pass{Op: api.Lit, To: 2, A: 0, K: 2}, []int{0}, ramp},
	} {
		f := api.Frame{W: 4, H: 2, Slots: 3, Out: 2, Passes: []api.Pass{{Op: api.Ramp, To: 0, K: 30000}, {Op: api.Fill, To: 1, K: 20000}, x.p}}
		s := api.Size{W: 4, H: 2}
		right(t, "operation", f, []api.Size{s, s, {W: x.want.W, H: x.want.H}}, [][]int{{}, {}, x.sources}, x.want)
	}
}

// C3: sizes go with the images, of whichever pass they come.
func TestSizes(t *testing.T) {
	f := api.Frame{W: 6, H: 4, Slots: 2, Out: 0, Passes: []api.Pass{
		{Op: api.Fill, To: 0, K: 5},
		{Op: api.Down, To: 1, A: 0},
		{Op: api.Blur, To: 0, A: 1},
		{Op: api.Fill, To: 1, K: 6},
		{Op: api.Up, To: 1, A: 0},
		{Op: api.Ramp, To: 0, K: 2},
		{Op: api.Most, To: 0, A: 1, B: 1},
	}}
	big, small := api.Size{W: 6, H: 4}, api.Size{W: 3, H: 2}
	five, _ := image.Make(api.Fill, 6, 4, 5)
	right(t, "sizes", f, []api.Size{big, small, small, big, big, big, big}, [][]int{{}, {0}, {1}, {}, {2}, {}, {4, 4}}, five)
}

// C2, part 1, with a pass that is wrong and nothing in Out: it comes ahead of them.
func TestBounds(t *testing.T) {
	turn := func(name string, want api.Errno, do func(f *api.Frame)) {
		t.Helper()
		f := five()
		do(&f)
		fails(t, name, f, want)
		f = five()
		f.Passes[0].Op = 14
		do(&f)
		fails(t, name+", with a wrong pass", f, want)
	}
	for _, n := range []int{math.MinInt, -1, 0, 17, 1 << 32, math.MaxInt} {
		turn("columns", api.ErrRange, func(f *api.Frame) { f.W = n })
		turn("rows", api.ErrRange, func(f *api.Frame) { f.H = n })
	}
	for _, n := range []int{math.MinInt, -1, 0, 9, 1 << 32, math.MaxInt} {
		turn("slots", api.ErrRange, func(f *api.Frame) { f.Slots = n })
	}
	for _, n := range []int{math.MinInt, -1, 3, 8, math.MaxInt} {
		turn("out", api.ErrRange, func(f *api.Frame) { f.Out = n })
		turn("out ahead of the number of passes", api.ErrRange, func(f *api.Frame) { f.Out, f.Passes = n, nil })
	}
	turn("no pass", api.ErrMany, func(f *api.Frame) { f.Passes = nil })
	turn("no pass, not nil", api.ErrMany, func(f *api.Frame) { f.Passes = f.Passes[:0] })
	turn("too many", api.ErrMany, func(f *api.Frame) { f.Passes = slices.Repeat(f.Passes, 3)[:13] })
	turn("far too many", api.ErrMany, func(f *api.Frame) { f.Passes = slices.Repeat(f.Passes, 300) })
	turn("range ahead of many", api.ErrRange, func(f *api.Frame) { f.W, f.Passes = 0, slices.Repeat(f.Passes, 3) })
}

// C2, part 1: the ends that are right.
func TestEnds(t *testing.T) {
	for _, w := range []int{1, 16} {
		for _, h := range []int{1, 16} {
			for _, slots := range []int{1, 8} {
				for _, n := range []int{1, 12} {
					p := api.Pass{Op: api.Fill, To: slots - 1, K: api.Top}
					f := api.Frame{W: w, H: h, Slots: slots, Out: slots - 1, Passes: slices.Repeat([]api.Pass{p}, n)}
					want, _ := image.Make(api.Fill, w, h, api.Top)
					right(t, "ends", f, slices.Repeat([]api.Size{{W: w, H: h}}, n), make([][]int, n), want)
				}
			}
		}
	}
}

// around is a frame in whose slots 0 and 1 images lie when the pass comes.
func around(p api.Pass) api.Frame {
	f := api.Frame{W: 4, H: 4, Slots: 4, Out: 0}
	for i := range 7 {
		f.Passes = append(f.Passes, api.Pass{Op: api.Ramp, To: i % 2, K: i})
	}
	f.Passes = append(f.Passes, p)
	return f
}

// plain is a right pass of an operation, for slot 2.
func plain(op int) api.Pass {
	p := api.Pass{Op: op, To: 2}
	if strings.Contains(letters[op], "A") {
		p.A = 1
	}
	if strings.Contains(letters[op], "B") {
		p.B = 1
	}
	if strings.Contains(letters[op], "K") {
		p.K = 3
	}
	if op == api.Lit {
		p.Lights = []api.Light{{X: 15, Y: 15, Reach: 32, Power: 9}}
	}
	return p
}

// C1: which fields a pass has, and which must be empty.
func TestFields(t *testing.T) {
	wildSlots := []int{math.MinInt, -1, 4, 7, 1 << 32, math.MaxInt}
	for op := api.Fill; op <= api.Lit; op++ {
		has := letters[op]
		turn := func(name string, want api.Errno, do func(p *api.Pass)) {
			t.Helper()
			p := plain(op)
			do(&p)
			fails(t, name, around(p), want)
		}
		turn("plain", api.OK, func(p *api.Pass) {})
		turn("the last slot", api.OK, func(p *api.Pass) { p.To = 3 })
		for _, n := range wildSlots {
			turn("To", api.ErrRange, func(p *api.Pass) { p.To = n })
		}
		for letter, field := range map[string]func(p *api.Pass) *int{"A": func(p *api.Pass) *int { return &p.A }, "B": func(p *api.Pass) *int { return &p.B }} {
			if strings.Contains(has, letter) {
				for _, n := range wildSlots {
					turn(letter, api.ErrRange, func(p *api.Pass) { *field(p) = n })
				}
				turn(letter+" is To", api.ErrForm, func(p *api.Pass) { *field(p) = 2 })
				turn(letter+" is To, where something lies", api.ErrForm, func(p *api.Pass) { p.To = *field(p) })
				turn(letter+" is empty", api.ErrNone, func(p *api.Pass) { *field(p) = 3 })
			} else {
				for _, n := range append(wildSlots, 1, 2, 3) {
					turn(letter+" of those that have it not", api.ErrForm, func(p *api.Pass) { *field(p) = n })
				}
			}
		}
		if !strings.Contains(has, "K") {
			for _, n := range []int{math.MinInt, -1, 1, 16, api.Top, math.MaxInt} {
				turn("K of those that have it not", api.ErrForm, func(p *api.Pass) { p.K = n })
			}
		}
		if op != api.Lit {
			for _, l := range [][]api.Light{make([]api.Light, 1), make([]api.Light, 9), {{X: 1, Y: 1, Reach: 1, Power: 1}}, {{X: -1}}} {
				turn("lights of those that have them not", api.ErrForm, func(p *api.Pass) { p.Lights = l })
			}
			turn("no lights, not nil", api.OK, func(p *api.Pass) { p.Lights = make([]api.Light, 0, 3) })
		}
	}
	for _, op := range []int{math.MinInt, -1, 0, 14, 256 + api.Fill, math.MaxInt} {
		fails(t, "operation", around(api.Pass{Op: op, To: 2}), api.ErrKind)
	}
}

// C2: K as chapters 1 and 2 ask for it.
func TestK(t *testing.T) {
	for _, x := range []struct{ op, low, high int }{
		{api.Fill, 0, api.Top}, {api.Ramp, 0, api.Top}, {api.Cut, 0, api.Top}, {api.Shift, -16, 16}, {api.Lit, 1, 16},
	} {
		p := plain(x.op)
		for _, k := range []int{x.low, x.low + 1, x.high - 1, x.high} {
			p.K = k
			fails(t, "right K", around(p), api.OK)
		}
		for _, k := range []int{math.MinInt, x.low - 1, x.high + 1, math.MaxInt} {
			p.K = k
			fails(t, "wrong K", around(p), api.ErrRange)
		}
	}
}

// C2: the lights of Lit.
func TestLights(t *testing.T) {
	p := plain(api.Lit)
	p.Lights = slices.Repeat(p.Lights, 8)
	fails(t, "eight lights", around(p), api.OK)
	p.Lights = make([]api.Light, 9)
	fails(t, "nine lights, and wrong ones", around(p), api.ErrMany)
	for _, one := range []api.Light{{}, {X: -1, Reach: 1}, {X: 16, Reach: 1}, {Y: 16, Reach: 1}, {Reach: 33}, {Reach: 1, Power: -1}, {Reach: 1, Power: api.Top + 1}} {
		p.Lights = []api.Light{{Reach: 1}, one}
		fails(t, "a wrong light", around(p), api.ErrRange)
	}
}

// C2: of the errors of one pass the first one that is named.
func TestFirstError(t *testing.T) {
	many, wrong := make([]api.Light, 9), make([]api.Light, 1)
	for _, x := range []struct {
		name string
		p    api.Pass
		want api.Errno
	}{
		{"kind ahead of all", api.Pass{Op: 14, To: 9, A: 9, B: 9, K: -1, Lights: many}, api.ErrKind},
		{"range ahead of many", api.Pass{Op: api.Lit, To: 2, A: 0, K: 0, Lights: many}, api.ErrRange},
		{"slot ahead of many", api.Pass{Op: api.Lit, To: 2, A: 4, K: 1, Lights: many}, api.ErrRange},
		{"many ahead of form", api.Pass{Op: api.Lit, To: 2, A: 2, B: 1, K: 1, Lights: many}, api.ErrMany},
		{"lights ahead of form", api.Pass{Op: api.Lit, To: 2, A: 2, B: 1, K: 1, Lights: wrong}, api.ErrRange},
		{"lights ahead of none", api.Pass{Op: api.Lit, To: 2, A: 3, K: 1, Lights: wrong}, api.ErrRange},
		{"range ahead of form", api.Pass{Op: api.Fill, To: 4, A: 1}, api.ErrRange},
		{"K ahead of form", api.Pass{Op: api.Fill, To: 2, A: 1, K: -1}, api.ErrRange},
		{"B ahead of form", api.Pass{Op: api.Add, To: 2, A: 2, B: 4}, api.ErrRange},
		{"range ahead of none", api.Pass{Op: api.Add, To: 2, A: 3, B: 4}, api.ErrRange},
		{"form ahead of none", api.Pass{Op: api.Copy, To: 2, A: 3, B: 1}, api.ErrForm},
		{"To ahead of none", api.Pass{Op: api.Add, To: 2, A: 3, B: 2}, api.ErrForm},
		{"form ahead of size", api.Pass{Op: api.Up, To: 2, A: 0, K: 1}, api.ErrForm},
		{"size", api.Pass{Op: api.Up, To: 2, A: 0}, api.ErrSize},
		{"none ahead of size", api.Pass{Op: api.Up, To: 2, A: 3}, api.ErrNone},
	} {
		f := around(x.p)
		f.W = 9
		fails(t, x.name, f, x.want)
		f.Out = 3
		fails(t, x.name+", ahead of Out", f, x.want)
		f.Passes = append(f.Passes, api.Pass{Op: 14})
		fails(t, x.name+", ahead of a later pass", f, x.want)
		f.Passes = slices.Insert(f.Passes, 0, api.Pass{Op: api.Copy, To: 0, A: 1})
		fails(t, x.name+", behind an earlier pass", f, api.ErrNone)
	}
}

// C2: nothing lies in a slot before a pass has made something for it.
func TestNone(t *testing.T) {
	fill := func(to int) api.Pass { return api.Pass{Op: api.Fill, To: to, K: 1} }
	for _, x := range []struct {
		name   string
		out    int
		passes []api.Pass
		want   api.Errno
	}{
		{"Out", 1, []api.Pass{fill(0)}, api.ErrNone},
		{"A of the first one", 1, []api.Pass{{Op: api.Copy, To: 1, A: 0}}, api.ErrNone},
		{"A, made later", 1, []api.Pass{{Op: api.Copy, To: 1, A: 0}, fill(0)}, api.ErrNone},
		{"B alone", 1, []api.Pass{fill(0), {Op: api.Add, To: 1, A: 0, B: 2}}, api.ErrNone},
		{"A alone", 1, []api.Pass{fill(2), {Op: api.Add, To: 1, A: 0, B: 2}}, api.ErrNone},
		{"both there", 1, []api.Pass{fill(2), fill(0), {Op: api.Add, To: 1, A: 0, B: 2}}, api.OK},
		{"taken twice", 0, []api.Pass{fill(2), {Op: api.Copy, To: 1, A: 2}, {Op: api.Copy, To: 0, A: 2}}, api.OK},
		{"what is shown need not be made last", 0, []api.Pass{fill(0), fill(1), fill(2)}, api.OK},
	} {
		fails(t, x.name, api.Frame{W: 1, H: 1, Slots: 3, Out: x.out, Passes: x.passes}, x.want)
	}
}

// C2: sizes that fit, and that do not.
func TestSizeErrors(t *testing.T) {
	for w := 1; w <= api.MaxSide; w++ {
		for h := 1; h <= api.MaxSide; h++ {
			for _, op := range []int{api.Down, api.Up, api.Blur} {
				want := api.OK
				if op == api.Down && (w%2 == 1 || h%2 == 1) || op == api.Up && (w > 8 || h > 8) {
					want = api.ErrSize
				}
				f := api.Frame{W: w, H: h, Slots: 2, Out: 1, Passes: []api.Pass{{Op: api.Ramp, To: 0, K: 9}, {Op: op, To: 1, A: 0}}}
				fails(t, "size", f, want)
			}
		}
	}
	for _, op := range []int{api.Add, api.Sub, api.Mul, api.Most} {
		for _, other := range []int{api.Down, api.Up, api.Blur} {
			want := api.ErrSize
			if other == api.Blur {
				want = api.OK
			}
			f := api.Frame{W: 4, H: 4, Slots: 3, Out: 2, Passes: []api.Pass{{Op: api.Ramp, To: 0, K: 9}, {Op: other, To: 1, A: 0}, {Op: op, To: 2, A: 0, B: 1}}}
			fails(t, "two sizes", f, want)
			f.Passes[2].A, f.Passes[2].B = 1, 0
			fails(t, "two sizes, the other way", f, want)
			f.Passes[2].A, f.Passes[2].B = 1, 1
			fails(t, "one size", f, api.OK)
		}
	}
}

// C1 to C3 against the passes done with their images; and spoilt frames against the errors one by one.
func TestDrawn(t *testing.T) {
	d := draws(7)
	errors := map[api.Errno]int{}
	for range 3000 {
		f := d.frame()
		for range 1 + d.below(3) {
			if got, want := asked(t, f), slow(f); !alike(got, want) {
				t.Fatalf("%v: it is %v, must be %v", f, got, want)
			} else {
				errors[got.e]++
			}
			if len(f.Passes) == 0 {
				break
			}
			f = d.spoil(f)
		}
	}
	for e := api.OK; e <= api.ErrSize; e++ {
		if errors[e] < 10 {
			t.Errorf("error %d was drawn %d times only", e, errors[e])
		}
	}
}

// P1: frames that nobody would hand in.
func TestWild(t *testing.T) {
	d := draws(11)
	for range 20000 {
		f := api.Frame{W: d.wild(), H: d.wild(), Slots: d.wild(), Out: d.wild()}
		if d.below(4) > 0 {
			f.W, f.H, f.Slots, f.Out = 4, 4, 8, 1
		}
		for range d.below(4) {
			f.Passes = append(f.Passes, api.Pass{Op: d.wild(), To: d.wild(), A: d.wild(), B: d.wild(), K: d.wild()})
		}
		if got, want := asked(t, f), slow(f); !alike(got, want) {
			t.Fatalf("%v: it is %v, must be %v", f, got, want)
		}
	}
}

// roomy is the same frame, with spare room behind each list, which no call may touch.
func roomy(f api.Frame) api.Frame {
	spare := api.Pass{Op: -7, To: -7, Lights: []api.Light{{X: -7}}}
	passes := append(make([]api.Pass, 0, len(f.Passes)+2), f.Passes...)
	for i, p := range passes {
		passes[i].Lights = append(append(make([]api.Light, 0, len(p.Lights)+2), p.Lights...), api.Light{X: -7}, api.Light{Y: -7})[:len(p.Lights)]
	}
	f.Passes = append(passes, spare, spare)[:len(f.Passes)]
	return f
}

// wipe all that a frame's lists have, the spare room too.
func wipe(f api.Frame) {
	for _, p := range f.Passes {
		clear(p.Lights[:cap(p.Lights)])
	}
	clear(f.Passes[:cap(f.Passes)])
}

func untouched(f, g api.Frame) bool {
	if !reflect.DeepEqual(f.Passes[:cap(f.Passes)], g.Passes[:cap(g.Passes)]) {
		return false
	}
	for i, p := range f.Passes {
		q := g.Passes[i]
		if !slices.Equal(p.Lights[:cap(p.Lights)], q.Lights[:cap(q.Lights)]) {
			return false
		}
	}
	return f.W == g.W && f.H == g.H && f.Slots == g.Slots && f.Out == g.Out
}

// P2: what is handed in is only read, an answer is new memory, and no two lists of it share any.
func TestMemory(t *testing.T) {
	d := draws(3)
	for range 300 {
		drawn := d.frame()
		f, want := roomy(drawn), slow(drawn)
		got := asked(t, f)
		if !untouched(f, roomy(drawn)) {
			t.Fatalf("%v was changed", drawn)
		}
		again := asked(t, f)
		wipe(f)
		if !alike(got, want) || !alike(again, want) {
			t.Fatalf("%v: it is %v, then %v, must be %v", drawn, got, again, want)
		}
		clear(got.sizes[:cap(got.sizes)])
		clear(got.shown.P[:cap(got.shown.P)])
		for i, one := range got.sources {
			clear(one[:cap(one)])
			if !slices.EqualFunc(got.sources[i+1:], want.sources[i+1:], slices.Equal) {
				t.Fatalf("%v: two lists of sources share memory", drawn)
			}
		}
		clear(got.sources[:cap(got.sources)])
		if !alike(again, want) {
			t.Fatalf("%v: two answers share memory", drawn)
		}
	}
}
