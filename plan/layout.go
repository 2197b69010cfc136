package plan

import (
	"underpaint/api"
	"underpaint/frame"
	"underpaint/need"
)

// layout is when and where the images of a plan lie: of each pass, its steps, and, if it is in the order, its numbers in the arena.
type layout struct {
	order []int
	spans []api.Span
	lies  []api.Span
}

// lay out a plan that is in order.
func lay(f api.Frame, p api.Plan) (layout, api.Errno) {
	sizes, e := frame.Sizes(f)
	if e != api.OK {
		return layout{}, e
	}
	sources, e := frame.Sources(f)
	if e != api.OK {
		return layout{}, e
	}
	kept, e := need.Kept(f)
	if e != api.OK {
		return layout{}, e
	}
	last, e := need.Last(f)
	if e != api.OK {
		return layout{}, e
	}
	steps, once := stepsOf(p.Order, len(f.Passes))
	if !once || !hasAll(steps, kept) || !isBehind(steps, sources) || !isPlaced(steps, p.Places, len(f.Passes)) {
		return layout{}, api.ErrForm
	}
	return layout{p.Order, spansOf(p.Order, steps, sources, last), liesOf(p.Order, p.Places, sizes)}, api.OK
}

// spansOf each pass of an order.
func spansOf(order []int, steps map[int]int, sources [][]int, last int) []api.Span {
	spans := make([]api.Span, len(sources))
	for pass := range spans {
		step, done := steps[pass]
		if !done {
			step = -1
		}
		spans[pass] = api.Span{First: step, Last: step}
	}
	// The steps rise, so what stays is the last one that takes the image.
	for step, pass := range order {
		for _, source := range sources[pass] {
			spans[source].Last = step
		}
	}
	spans[last].Last = len(order) - 1
	return spans
}

// liesOf each pass of an order.
func liesOf(order, places []int, sizes []api.Size) []api.Span {
	lies := make([]api.Span, len(sizes))
	for _, pass := range order {
		place, size := places[pass], sizes[pass]
		lies[pass] = api.Span{First: place, Last: place + size.W*size.H - 1}
	}
	return lies
}

// peak of no image at all is 0.
func (l layout) peak() int {
	n := 0
	for _, pass := range l.order {
		n = max(n, l.lies[pass].Last+1)
	}
	return n
}

// floor of no step at all is 0.
func (l layout) floor() int {
	most := 0
	for step := range l.order {
		n := 0
		for _, pass := range l.order {
			if meet(l.spans[pass], api.Span{First: step, Last: step}) {
				n += l.lies[pass].Last - l.lies[pass].First + 1
			}
		}
		most = max(most, n)
	}
	return most
}

// clash: two images lie at one number at one step.
func (l layout) clash() bool {
	for i, a := range l.order {
		for _, b := range l.order[:i] {
			if meet(l.spans[a], l.spans[b]) && meet(l.lies[a], l.lies[b]) {
				return true
			}
		}
	}
	return false
}

func meet(a, b api.Span) bool { return a.First <= b.Last && b.First <= a.Last }
