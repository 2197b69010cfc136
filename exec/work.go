package exec

import (
	"slices"

	"underpaint/api"
	"underpaint/frame"
	"underpaint/paint"
	"underpaint/plan"
)

// work is a plan that fits, and an arena of its own in which it is done.
type work struct {
	passes  []api.Pass
	places  []int
	sizes   []api.Size
	sources [][]int
	arena   []int
}

// begin a work in a copy of the arena, if plan and arena are as they must be.
func begin(f api.Frame, p api.Plan, arena []int) (work, api.Errno) {
	if e := plan.Check(f, p, len(arena)); e != api.OK {
		return work{}, e
	}
	for _, n := range arena {
		if n < 0 || n > api.Top {
			return work{}, api.ErrRange
		}
	}
	sizes, e := frame.Sizes(f)
	if e != api.OK {
		return work{}, e
	}
	sources, e := frame.Sources(f)
	if e != api.OK {
		return work{}, e
	}
	return work{f.Passes, p.Places, sizes, sources, slices.Clone(arena)}, api.OK
}

// do a pass: its image lies in its place then.
func (w work) do(pass int) api.Errno {
	var from []api.Image
	for _, source := range w.sources[pass] {
		from = append(from, w.image(source))
	}
	made, e := paint.Pass(w.passes[pass], w.sizes[pass], from)
	if e != api.OK {
		return e
	}
	copy(w.arena[w.places[pass]:], made.P)
	return api.OK
}

// image that lies where the pass's image has its place, as it is now.
func (w work) image(pass int) api.Image {
	size, place := w.sizes[pass], w.places[pass]
	return api.Image{W: size.W, H: size.H, P: slices.Clone(w.arena[place : place+size.W*size.H])}
}
