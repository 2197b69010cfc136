package frame

import "underpaint/api"

// course is how the passes of a frame go, their images left out: the size of each one's image, which passes made what it takes, and which pass made what is shown.
type course struct {
	sizes   []api.Size
	sources [][]int
	shown   int
}

// follow goes through the passes of a frame, and tells the first error.
func follow(f api.Frame) (course, api.Errno) {
	if e := checkBounds(f); e != api.OK {
		return course{}, e
	}
	var c course
	var s slots
	for i, p := range f.Passes {
		if e := checkPass(p, f.Slots); e != api.OK {
			return course{}, e
		}
		sources, there := s.sourcesOf(p)
		if !there {
			return course{}, api.ErrNone
		}
		size, fits := sizeOf(f, p, picked(c.sizes, sources))
		if !fits {
			return course{}, api.ErrSize
		}
		c.sizes = append(c.sizes, size)
		c.sources = append(c.sources, sources)
		s.put(p.To, i)
	}
	shown, there := s.maker(f.Out)
	if !there {
		return course{}, api.ErrNone
	}
	c.shown = shown
	return c, api.OK
}

// checkBounds tells the errors of a frame that come ahead of those of its passes.
func checkBounds(f api.Frame) api.Errno {
	if !within(f.W, 1, api.MaxSide) || !within(f.H, 1, api.MaxSide) ||
		!within(f.Slots, 1, api.MaxSlots) || !isSlot(f.Out, f.Slots) {
		return api.ErrRange
	}
	if !within(len(f.Passes), 1, api.MaxPasses) {
		return api.ErrMany
	}
	return api.OK
}

func within(n, low, high int) bool { return low <= n && n <= high }

func isSlot(n, many int) bool { return within(n, 0, many-1) }

// picked are those of all that have these numbers, in their order.
func picked[T any](all []T, numbers []int) []T {
	var some []T
	for _, n := range numbers {
		some = append(some, all[n])
	}
	return some
}
