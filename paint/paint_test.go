package paint

import (
	"reflect"
	"testing"

	"underpaint/api"
)

// C2: each operation is that of its chapter, of A and of B, in their order.
func TestPass(t *testing.T) {
	a := api.Image{W: 2, H: 2, P: []int{10, 20, 30, 40}}
	b := api.Image{W: 2, H: 2, P: []int{40, 5, 30, 65535}}
	l := []api.Light{{X: 0, Y: 0, Reach: 2, Power: 100}}
	for _, x := range []struct {
		p    api.Pass
		want api.Image
	}{
		{api.Pass{Op: api.Fill, K: 7}, api.Image{W: 3, H: 1, P: []int{7, 7, 7}}},
		{api.Pass{Op: api.Ramp, K: 7}, api.Image{W: 3, H: 1, P: []int{0, 7, 14}}},
		{api.Pass{Op: api.Copy}, a},
		{api.Pass{Op: api.Add}, api.Image{W: 2, H: 2, P: []int{50, 25, 60, 65535}}},
		{api.Pass{Op: api.Sub}, api.Image{W: 2, H: 2, P: []int{0, 15, 0, 0}}},
		{api.Pass{Op: api.Mul}, api.Image{W: 2, H: 2, P: []int{0, 0, 0, 40}}},
		{api.Pass{Op: api.Most}, api.Image{W: 2, H: 2, P: []int{40, 20, 30, 65535}}},
		{api.Pass{Op: api.Cut, K: 25}, api.Image{W: 2, H: 2, P: []int{0, 0, 30, 40}}},
		{api.Pass{Op: api.Shift, K: -1}, api.Image{W: 2, H: 2, P: []int{20, 20, 40, 40}}},
		{api.Pass{Op: api.Blur}, api.Image{W: 2, H: 2, P: []int{25, 25, 25, 25}}},
		{api.Pass{Op: api.Down}, api.Image{W: 1, H: 1, P: []int{25}}},
		{api.Pass{Op: api.Up}, api.Image{W: 4, H: 4, P: []int{10, 10, 20, 20, 10, 10, 20, 20, 30, 30, 40, 40, 30, 30, 40, 40}}},
		{api.Pass{Op: api.Lit, K: 1, Lights: l}, api.Image{W: 2, H: 2, P: []int{110, 70, 80, 40}}},
	} {
		if got, e := Pass(x.p, api.Size{W: 3, H: 1}, []api.Image{a, b}); e != api.OK || !reflect.DeepEqual(got, x.want) {
			t.Errorf("operation %d: it is %v, %d, must be %v", x.p.Op, got, e, x.want)
		}
	}
}
