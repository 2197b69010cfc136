// The tests of desk_test are of all layers together, on frames and plans that are drawn, against slow readings of the document's words: the desk leans on all of them.

package desk_test

import (
	"math"
	"slices"

	"underpaint/api"
	"underpaint/frame"
)

// draws are numbers without an order, the same each time.
type draws uint32

func (d *draws) below(n int) int {
	*d = *d*1664525 + 1013904223
	return int(*d>>8) % n
}

// wild is a number that is wrong in most places.
func (d *draws) wild() int {
	return []int{math.MinInt, math.MinInt + 1, -65536, -2, -1, 0, 1, 2, 3, 5, 8, 12, 13, 16, 17, 4095, 4096, 4097, 65535, 65536, 1 << 32, math.MaxInt - 1, math.MaxInt}[d.below(23)]
}

func (d *draws) pass(slots int) api.Pass {
	p := api.Pass{Op: 1 + d.below(api.Lit), To: d.below(slots)}
	switch p.Op {
	case api.Fill, api.Ramp:
		p.K = d.below(api.Top + 1)
	case api.Copy, api.Blur, api.Down, api.Up:
		p.A = d.below(slots)
	case api.Cut:
		p.A, p.K = d.below(slots), d.below(api.Top+1)
	case api.Shift:
		p.A, p.K = d.below(slots), d.below(33)-16
	case api.Lit:
		p.A, p.K = d.below(slots), 1+d.below(16)
		for range d.below(9) {
			p.Lights = append(p.Lights, api.Light{X: d.below(16), Y: d.below(16), Reach: 1 + d.below(32), Power: d.below(20000)})
		}
	default:
		p.A, p.B = d.below(slots), d.below(slots)
	}
	return p
}

// frame that is right: of passes that are drawn those stay with which it goes on being so.
func (d *draws) frame() api.Frame {
	f := api.Frame{W: 1 + d.below(5), H: 1 + d.below(5), Slots: 2 + d.below(7)}
	if d.below(2) == 0 {
		f.W, f.H = 4, 4 // so that Down and Up come often
	}
	if d.below(20) == 0 {
		f.W, f.H = 16, 16
	}
	f.Passes = []api.Pass{{Op: api.Ramp, To: 0, K: d.below(api.Top + 1)}}
	for range 80 {
		g := f
		g.Passes = append(slices.Clone(f.Passes), d.pass(f.Slots))
		if len(g.Passes) <= api.MaxPasses && frame.Check(g) == api.OK {
			f = g
		}
	}
	f.Passes = f.Passes[:1+d.below(len(f.Passes))]
	f.Out = f.Passes[max(0, len(f.Passes)-1-d.below(3))].To
	return f
}

// order of a right plan: all passes that are kept and some others, at random, but each one behind all whose images it takes.
func (d *draws) order(f api.Frame) []int {
	in := keptOf(f)
	sources, _ := frame.Sources(f)
	for i := range in {
		in[i] = in[i] || d.below(4) == 0
	}
	for i := len(in) - 1; i >= 0; i-- {
		if in[i] {
			for _, source := range sources[i] {
				in[source] = true
			}
		}
	}
	var order []int
	for {
		var next []int
		for i := range in {
			ready := in[i] && !slices.Contains(order, i)
			for _, source := range sources[i] {
				ready = ready && slices.Contains(order, source)
			}
			if ready {
				next = append(next, i)
			}
		}
		if len(next) == 0 {
			return order
		}
		order = append(order, next[d.below(len(next))])
	}
}

// plan that fits, in an arena as great as may be: each image lies anywhere that is free as long as it is needed.
func (d *draws) plan(f api.Frame) api.Plan {
	p := api.Plan{Order: d.order(f), Places: slices.Repeat([]int{-1}, len(f.Passes))}
	all := 0
	for _, i := range p.Order {
		all += numbers(f, i)
	}
	tries := 0
	for n := 0; n < len(p.Order); n++ {
		i := p.Order[n]
		p.Places[i] = d.below(min(2*all, api.MaxArena-numbers(f, i)+1))
		if fitsSoFar(f, p, n) {
			continue
		}
		n--
		if tries++; tries%100 == 0 {
			n = -1 // the room that is left may be in pieces that are too small
		}
	}
	return p
}

// fitsSoFar: the image of step n lies over none that is placed already and needed at the same time.
func fitsSoFar(f api.Frame, p api.Plan, n int) bool {
	for _, j := range p.Order[:n] {
		if common(stepsOf(f, p, p.Order[n]), stepsOf(f, p, j)) && common(numbersOf(f, p, p.Order[n]), numbersOf(f, p, j)) {
			return false
		}
	}
	return true
}

// spoil one thing of a plan.
func (d *draws) spoil(p api.Plan) api.Plan {
	p = api.Plan{Order: slices.Clone(p.Order), Places: slices.Clone(p.Places)}
	if len(p.Order) == 0 || len(p.Places) == 0 {
		return p
	}
	i, j := d.below(len(p.Order)), d.below(len(p.Order))
	switch d.below(14) {
	case 0, 1, 2:
		p.Order[i], p.Order[j] = p.Order[j], p.Order[i]
	case 3:
		p.Order[i] = d.below(len(p.Places))
	case 4:
		p.Order[i] = d.wild()
	case 5:
		if pass := p.Order[i]; pass >= 0 && pass < len(p.Places) {
			p.Places[pass] = -1
		}
		p.Order = slices.Delete(p.Order, i, i+1)
	case 6:
		p.Order = slices.Insert(p.Order, i, d.below(len(p.Places)))
	case 7:
		p.Order = slices.Delete(p.Order, i, i+1)
	case 8:
		p.Places[d.below(len(p.Places))] = d.wild()
	case 9, 10, 11:
		p.Places[d.below(len(p.Places))] = d.below(40)
	case 12:
		p.Places = append(p.Places, -1)
	case 13:
		p.Places = p.Places[:len(p.Places)-1]
	}
	return p
}

// arena of that many numbers.
func (d *draws) arena(n int) []int {
	arena := make([]int, n)
	for i := range arena {
		arena[i] = d.below(api.Top + 1)
	}
	return arena
}
