package frame

import (
	"math"
	"slices"
	"strings"

	"underpaint/api"
	"underpaint/image"
	"underpaint/light"
)

// letters are the fields of each operation, as C1 lists them.
var letters = map[int]string{
	api.Fill: "TK", api.Ramp: "TK",
	api.Copy: "TA", api.Blur: "TA", api.Down: "TA", api.Up: "TA",
	api.Cut: "TAK", api.Shift: "TAK",
	api.Add: "TAB", api.Sub: "TAB", api.Mul: "TAB", api.Most: "TAB",
	api.Lit: "TAKL",
}

// told is all that the four calls tell of a frame.
type told struct {
	e       api.Errno
	sizes   []api.Size
	sources [][]int
	shown   api.Image
}

// slot with an image in it.
type full struct {
	pass int
	a    api.Image
}

// slow does the passes with their images, one behind the other, by the chapter's words.
func slow(f api.Frame) told {
	if f.W < 1 || f.W > 16 || f.H < 1 || f.H > 16 || f.Slots < 1 || f.Slots > 8 || f.Out < 0 || f.Out >= f.Slots {
		return told{e: api.ErrRange}
	}
	if len(f.Passes) < 1 || len(f.Passes) > 12 {
		return told{e: api.ErrMany}
	}
	var all told
	lies := map[int]full{}
	for i, p := range f.Passes {
		if e := slowAlone(f, p); e != api.OK {
			return told{e: e}
		}
		a, e := slowImage(f, p, lies)
		if e != api.OK {
			return told{e: e}
		}
		var from []int
		if strings.Contains(letters[p.Op], "A") {
			from = append(from, lies[p.A].pass)
		}
		if strings.Contains(letters[p.Op], "B") {
			from = append(from, lies[p.B].pass)
		}
		all.sizes = append(all.sizes, api.Size{W: a.W, H: a.H})
		all.sources = append(all.sources, from)
		lies[p.To] = full{i, a}
	}
	out, there := lies[f.Out]
	if !there {
		return told{e: api.ErrNone}
	}
	all.shown = out.a
	return all
}

// slowAlone gathers the errors of a pass by itself, in the order in which C2 names them.
func slowAlone(f api.Frame, p api.Pass) api.Errno {
	has, known := letters[p.Op]
	if !known {
		return api.ErrKind
	}
	var wrong []api.Errno
	for letter, n := range map[string]int{"T": p.To, "A": p.A, "B": p.B} {
		if strings.Contains(has, letter) && (n < 0 || n >= f.Slots) {
			wrong = append(wrong, api.ErrRange)
		}
	}
	low, high := 0, 65535
	switch p.Op {
	case api.Shift:
		low, high = -16, 16
	case api.Lit:
		low, high = 1, 16
	}
	if strings.Contains(has, "K") && (p.K < low || p.K > high) {
		wrong = append(wrong, api.ErrRange)
	}
	if e := light.Check(p.Lights); p.Op == api.Lit && e != api.OK {
		wrong = append(wrong, e)
	}
	for letter, n := range map[string]int{"A": p.A, "B": p.B} {
		if strings.Contains(has, letter) {
			if n == p.To {
				wrong = append(wrong, api.ErrForm)
			}
		} else if n != 0 {
			wrong = append(wrong, api.ErrForm)
		}
	}
	if !strings.Contains(has, "K") && p.K != 0 || p.Op != api.Lit && len(p.Lights) > 0 {
		wrong = append(wrong, api.ErrForm)
	}
	return append(wrong, api.OK)[0]
}

func slowImage(f api.Frame, p api.Pass, lies map[int]full) (api.Image, api.Errno) {
	a, thereA := lies[p.A]
	b, thereB := lies[p.B]
	switch letters[p.Op] {
	case "TK":
		return image.Make(p.Op, f.W, f.H, p.K)
	case "TAB":
		if !thereA || !thereB {
			return api.Image{}, api.ErrNone
		}
		return image.Two(p.Op, a.a, b.a)
	}
	if !thereA {
		return api.Image{}, api.ErrNone
	}
	if p.Op == api.Lit {
		return light.Lit(a.a, p.Lights, p.K)
	}
	return image.One(p.Op, a.a, p.K)
}

// draws are numbers without an order, the same each time.
type draws uint32

func (d *draws) below(n int) int {
	*d = *d*1664525 + 1013904223
	return int(*d>>8) % n
}

func (d *draws) pass(slots int) api.Pass {
	p := api.Pass{Op: 1 + d.below(api.Lit), To: d.below(slots)}
	has := letters[p.Op]
	if strings.Contains(has, "A") {
		p.A = d.below(slots)
	}
	if strings.Contains(has, "B") {
		p.B = d.below(slots)
	}
	switch {
	case p.Op == api.Lit:
		p.K = 1 + d.below(api.MaxSide)
		for range d.below(api.MaxLights + 1) {
			p.Lights = append(p.Lights, api.Light{X: d.below(16), Y: d.below(16), Reach: 1 + d.below(32), Power: d.below(20000)})
		}
	case p.Op == api.Shift:
		p.K = d.below(33) - 16
	case strings.Contains(has, "K"):
		p.K = d.below(api.Top + 1)
	}
	return p
}

// frame that is right: of passes that are drawn those stay with which it goes on being so.
func (d *draws) frame() api.Frame {
	f := api.Frame{W: 1 + d.below(16), H: 1 + d.below(16), Slots: 1 + d.below(8)}
	if d.below(2) == 0 {
		f.W, f.H = 4, 4 // so that Down and Up come often
	}
	f.Out = d.below(f.Slots)
	f.Passes = []api.Pass{{Op: api.Ramp, To: f.Out, K: d.below(api.Top + 1)}}
	for range 60 {
		g := f
		g.Passes = append(slices.Clone(f.Passes), d.pass(f.Slots))
		if len(g.Passes) <= api.MaxPasses && slow(g).e == api.OK {
			f = g
		}
	}
	f.Passes = f.Passes[:1+d.below(len(f.Passes))]
	return f
}

// wild is a number that is wrong in most places.
func (d *draws) wild() int {
	return []int{math.MinInt, math.MinInt + 1, -65536, -17, -16, -1, 0, 1, 2, 7, 8, 12, 13, 14, 16, 17, 65535, 65536, 1 << 32, math.MaxInt - 1, math.MaxInt}[d.below(21)]
}

// spoil one thing of a frame.
func (d *draws) spoil(f api.Frame) api.Frame {
	f.Passes = slices.Clone(f.Passes)
	p := &f.Passes[d.below(len(f.Passes))]
	switch d.below(24) {
	case 0:
		f.W = d.wild()
	case 1:
		f.H = d.wild()
	case 2:
		f.Slots = d.wild()
	case 3, 4:
		f.Out = d.below(9)
	case 5:
		f.Passes = slices.Repeat(f.Passes, d.below(4))
	case 6, 7:
		p.Op = d.wild()
	case 8, 9:
		p.Op = 1 + d.below(14)
	case 10:
		p.To = d.wild()
	case 11:
		p.A = d.wild()
	case 12:
		p.B = d.wild()
	case 13, 14:
		p.K = d.wild()
	case 15, 16:
		p.A = d.below(8)
	case 17, 18:
		p.B = d.below(8)
	case 19:
		p.To = p.A
	case 20:
		p.Lights = make([]api.Light, d.below(10))
	case 21:
		p.Lights = slices.Repeat([]api.Light{{Reach: 1}}, d.below(10))
	case 22:
		p.Lights = []api.Light{{X: d.wild(), Y: d.wild(), Reach: d.wild(), Power: d.wild()}}
	case 23:
		f.Passes = slices.Delete(f.Passes, 0, 1)
	}
	return f
}
