package image

import "underpaint/api"

// checkOne tells the errors of One, of an image that is right.
func checkOne(op int, a api.Image, k int) api.Errno {
	switch op {
	case api.Copy, api.Blur:
		return api.OK
	case api.Cut:
		return unless(isNumber(k), api.ErrRange)
	case api.Shift:
		return unless(-api.MaxSide <= k && k <= api.MaxSide, api.ErrRange)
	case api.Down:
		return unless(a.W%2 == 0 && a.H%2 == 0, api.ErrSize)
	case api.Up:
		return unless(isSide(2*a.W) && isSide(2*a.H), api.ErrSize)
	}
	return api.ErrKind
}

func unless(right bool, e api.Errno) api.Errno {
	if right {
		return api.OK
	}
	return e
}

// sizeOfOne: how many columns and rows One makes of a.
func sizeOfOne(op int, a api.Image) (w, h int) {
	switch op {
	case api.Down:
		return a.W / 2, a.H / 2
	case api.Up:
		return 2 * a.W, 2 * a.H
	}
	return a.W, a.H
}

// ruleOfOne tells what stands where in what One makes of a.
func ruleOfOne(op int, a api.Image, k int) func(x, y int) int {
	old := numbersOf(a)
	switch op {
	case api.Cut:
		return func(x, y int) int {
			if n := old(x, y); n >= k {
				return n
			}
			return 0
		}
	case api.Shift:
		return func(x, y int) int { return old(min(max(x-k, 0), a.W-1), y) }
	case api.Blur:
		return func(x, y int) int {
			return mean(old, max(x-1, 0), max(y-1, 0), min(x+1, a.W-1), min(y+1, a.H-1))
		}
	case api.Down:
		return func(x, y int) int { return mean(old, 2*x, 2*y, 2*x+1, 2*y+1) }
	case api.Up:
		return func(x, y int) int { return old(x/2, y/2) }
	}
	return old
}

// mean of the numbers from (left, top) to (right, bottom), both of them in it, rounded down.
func mean(at func(x, y int) int, left, top, right, bottom int) int {
	sum := 0
	for y := top; y <= bottom; y++ {
		for x := left; x <= right; x++ {
			sum += at(x, y)
		}
	}
	return sum / ((right - left + 1) * (bottom - top + 1))
}
