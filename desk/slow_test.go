package desk_test

import (
	"slices"

	"underpaint/api"
	"underpaint/frame"
	"underpaint/need"
)

func keptOf(f api.Frame) []bool { kept, _ := need.Kept(f); return kept }

// numbers that the image of a pass has.
func numbers(f api.Frame, pass int) int {
	sizes, _ := frame.Sizes(f)
	return sizes[pass].W * sizes[pass].H
}

// common: two lists have an element in common.
func common(a, b []int) bool {
	return slices.ContainsFunc(a, func(n int) bool { return slices.Contains(b, n) })
}

// inOrder: each condition of E1, one by one.
func inOrder(f api.Frame, p api.Plan) bool {
	if len(p.Places) != len(f.Passes) {
		return false
	}
	sources, _ := frame.Sources(f)
	for n, i := range p.Order {
		if i < 0 || i >= len(f.Passes) || slices.Contains(p.Order[:n], i) {
			return false
		}
		for _, source := range sources[i] {
			if !slices.Contains(p.Order[:n], source) {
				return false
			}
		}
	}
	for i, kept := range keptOf(f) {
		in := slices.Contains(p.Order, i)
		if kept && !in || in && (p.Places[i] < 0 || p.Places[i] > 4096) || !in && p.Places[i] != -1 {
			return false
		}
	}
	return true
}

// stepsOf are all steps of a pass's span, rising; of one that is not in the order, none.
func stepsOf(f api.Frame, p api.Plan, pass int) []int {
	first := slices.Index(p.Order, pass)
	if first < 0 {
		return nil
	}
	last := first
	sources, _ := frame.Sources(f)
	for n, i := range p.Order {
		if slices.Contains(sources[i], pass) {
			last = max(last, n)
		}
	}
	if shown, _ := need.Last(f); shown == pass {
		last = len(p.Order) - 1
	}
	var steps []int
	for n := first; n <= last; n++ {
		steps = append(steps, n)
	}
	return steps
}

// numbersOf are all numbers of an arena where the image of a pass lies.
func numbersOf(f api.Frame, p api.Plan, pass int) []int {
	var at []int
	for n := range numbers(f, pass) {
		at = append(at, p.Places[pass]+n)
	}
	return at
}

// fits: E1, image by image, number by number.
func fits(f api.Frame, p api.Plan, room int) bool {
	for n, i := range p.Order {
		if slices.Max(numbersOf(f, p, i)) >= room || !fitsSoFar(f, p, n) {
			return false
		}
	}
	return true
}

func slowCheck(f api.Frame, p api.Plan, room int) api.Errno {
	switch e := frame.Check(f); {
	case e != api.OK:
		return e
	case room < 0 || room > 4096:
		return api.ErrRange
	case !inOrder(f, p):
		return api.ErrForm
	case !fits(f, p, room):
		return api.ErrFull
	}
	return api.OK
}

// slowSpans, slowPeak and slowFloor are of a plan that is in order.
func slowSpans(f api.Frame, p api.Plan) []api.Span {
	var spans []api.Span
	for i := range f.Passes {
		steps := stepsOf(f, p, i)
		if len(steps) == 0 {
			steps = []int{-1}
		}
		spans = append(spans, api.Span{First: steps[0], Last: steps[len(steps)-1]})
	}
	return spans
}

func slowPeak(f api.Frame, p api.Plan) int {
	peak := 0
	for _, i := range p.Order {
		for _, n := range numbersOf(f, p, i) {
			peak = max(peak, n+1)
		}
	}
	return peak
}

func slowFloor(f api.Frame, p api.Plan) int {
	at := make([]int, len(p.Order))
	for _, i := range p.Order {
		for _, n := range stepsOf(f, p, i) {
			at[n] += numbers(f, i)
		}
	}
	return slices.Max(at)
}

// slowCompile tries place by place, from 0 on.
func slowCompile(f api.Frame) api.Plan {
	p := api.Plan{Places: slices.Repeat([]int{-1}, len(f.Passes))}
	for i, kept := range keptOf(f) {
		if kept {
			p.Order = append(p.Order, i)
		}
	}
	for n, i := range p.Order {
		p.Places[i] = 0
		for !fitsSoFar(f, p, n) {
			p.Places[i]++
		}
	}
	return p
}

// slowWrite is the bytes of H1, number by number.
func slowWrite(f api.Frame) string {
	all := []int{f.W, f.H, f.Slots, f.Out, len(f.Passes)}
	for _, p := range f.Passes {
		k := p.K
		if k < 0 {
			k += 16777216
		}
		all = append(all, p.Op, p.To, p.A, p.B, k/65536, k/256%256, k%256, len(p.Lights))
		for _, l := range p.Lights {
			all = append(all, l.X, l.Y, l.Reach, l.Power/256, l.Power%256)
		}
	}
	var b []byte
	for _, n := range all {
		b = append(b, byte(n))
	}
	return string(b)
}
