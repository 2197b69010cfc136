// Package paint makes the images of passes: for frames, where images lie in slots, and for plans, where they lie in an arena.
package paint

import (
	"underpaint/api"
	"underpaint/image"
	"underpaint/light"
)

// Pass makes the image of a pass of a right frame, of that size, out of those that it takes, from A, then from B.
func Pass(p api.Pass, size api.Size, from []api.Image) (api.Image, api.Errno) {
	switch p.Op {
	case api.Fill, api.Ramp:
		return image.Make(p.Op, size.W, size.H, p.K)
	case api.Add, api.Sub, api.Mul, api.Most:
		return image.Two(p.Op, from[0], from[1])
	case api.Lit:
		return light.Lit(from[0], p.Lights, p.K)
	}
	return image.One(p.Op, from[0], p.K)
}
