// Package light: lights: see doc/02-light.md.
package light

import (
	"underpaint/api"
	"underpaint/image"
)

// Check: see the chapter.
func Check(l []api.Light) api.Errno {
	if len(l) > api.MaxLights {
		return api.ErrMany
	}
	for _, one := range l {
		if !isRight(one) {
			return api.ErrRange
		}
	}
	return api.OK
}

// At: see the chapter.
func At(l []api.Light, x, y int) (int, api.Errno) {
	if e := Check(l); e != api.OK {
		return 0, e
	}
	if !isPlace(x) || !isPlace(y) {
		return 0, api.ErrRange
	}
	sum := 0
	for _, one := range l {
		sum += given(one, x, y)
	}
	return sum, api.OK
}

// Near: see the chapter.
func Near(l []api.Light, x, y, w, h int) ([]int, api.Errno) {
	if e := Check(l); e != api.OK {
		return nil, e
	}
	if !isStretch(x, w) || !isStretch(y, h) {
		return nil, api.ErrRange
	}
	var near []int
	for i, one := range l {
		if away(one.X, x, w)+away(one.Y, y, h) < one.Reach {
			near = append(near, i)
		}
	}
	return near, api.OK
}

// Lit: see the chapter.
func Lit(a api.Image, l []api.Light, tile int) (api.Image, api.Errno) {
	if e := image.Check(a); e != api.OK {
		return api.Image{}, e
	}
	if e := Check(l); e != api.OK {
		return api.Image{}, e
	}
	if tile < 1 || tile > api.MaxSide {
		return api.Image{}, api.ErrRange
	}
	p := make([]int, len(a.P))
	eachTile(a.W, a.H, tile, func(x, y, w, h int) {
		near, _ := Near(l, x, y, w, h) // no error is left: a tile lies in a right image
		eachPlace(x, y, w, h, func(x, y int) {
			sum := a.P[y*a.W+x]
			for _, i := range near {
				sum += given(l[i], x, y)
			}
			p[y*a.W+x] = min(sum, api.Top)
		})
	})
	return api.Image{W: a.W, H: a.H, P: p}, api.OK
}

func isRight(one api.Light) bool {
	return isPlace(one.X) && isPlace(one.Y) &&
		1 <= one.Reach && one.Reach <= api.MaxReach &&
		0 <= one.Power && one.Power <= api.Top
}

func isPlace(n int) bool { return 0 <= n && n < api.MaxSide }

// isStretch: n columns (or rows) from the one at from on are there.
func isStretch(from, n int) bool {
	// from is taken off the bound, since from + n could wrap round.
	return isPlace(from) && 1 <= n && n <= api.MaxSide-from
}

// given is what a light gives to a place.
func given(one api.Light, x, y int) int {
	far := away(one.X, x, 1) + away(one.Y, y, 1)
	return one.Power * max(one.Reach-far, 0) / one.Reach
}

// away is how far c is from the nearest of n columns (or rows) from the one at from on.
func away(c, from, n int) int { return max(from-c, c-(from+n-1), 0) }
