// Package image: images: see doc/01-image.md.
package image

import "underpaint/api"

// Check: see the chapter.
func Check(a api.Image) api.Errno {
	// The sides are asked first: of wild ones the product could wrap round to the length of P.
	if !isSide(a.W) || !isSide(a.H) || len(a.P) != a.W*a.H {
		return api.ErrForm
	}
	for _, n := range a.P {
		if !isNumber(n) {
			return api.ErrForm
		}
	}
	return api.OK
}

// Make: see the chapter.
func Make(op, w, h, k int) (api.Image, api.Errno) {
	if op != api.Fill && op != api.Ramp {
		return api.Image{}, api.ErrKind
	}
	if !isSide(w) || !isSide(h) || !isNumber(k) {
		return api.Image{}, api.ErrRange
	}
	if op == api.Fill {
		return draw(w, h, func(x, y int) int { return k }), api.OK
	}
	return draw(w, h, func(x, y int) int { return (x*k + y) % (api.Top + 1) }), api.OK
}

// One: see the chapter.
func One(op int, a api.Image, k int) (api.Image, api.Errno) {
	if e := Check(a); e != api.OK {
		return api.Image{}, e
	}
	if e := checkOne(op, a, k); e != api.OK {
		return api.Image{}, e
	}
	w, h := sizeOfOne(op, a)
	return draw(w, h, ruleOfOne(op, a, k)), api.OK
}

// Two: see the chapter.
func Two(op int, a, b api.Image) (api.Image, api.Errno) {
	if Check(a) != api.OK || Check(b) != api.OK {
		return api.Image{}, api.ErrForm
	}
	rule, known := rulesOfTwo()[op]
	if !known {
		return api.Image{}, api.ErrKind
	}
	if a.W != b.W || a.H != b.H {
		return api.Image{}, api.ErrSize
	}
	p, q := numbersOf(a), numbersOf(b)
	return draw(a.W, a.H, func(x, y int) int { return rule(p(x, y), q(x, y)) }), api.OK
}

func isSide(n int) bool { return 1 <= n && n <= api.MaxSide }

func isNumber(n int) bool { return 0 <= n && n <= api.Top }

// draw makes an image of what at tells of each place.
func draw(w, h int, at func(x, y int) int) api.Image {
	p := make([]int, 0, w*h)
	for y := range h {
		for x := range w {
			p = append(p, at(x, y))
		}
	}
	return api.Image{W: w, H: h, P: p}
}

// numbersOf tells what stands where in a right image.
func numbersOf(a api.Image) func(x, y int) int {
	return func(x, y int) int { return a.P[y*a.W+x] }
}
