package light

import (
	"testing"

	"underpaint/api"
)

// B3: tiles are from (0, 0) on, none is empty, and each place is in just one.
func TestEachTile(t *testing.T) {
	for tile := 1; tile <= api.MaxSide; tile++ {
		for w := 1; w <= api.MaxSide; w++ {
			for h := 1; h <= api.MaxSide; h++ {
				times := map[[2]int]int{}
				eachTile(w, h, tile, func(x, y, tw, th int) {
					if x%tile != 0 || y%tile != 0 || tw < 1 || th < 1 || tw > tile || th > tile {
						t.Errorf("%d, %d: tile %d at %d, %d has %d, %d", w, h, tile, x, y, tw, th)
					}
					eachPlace(x, y, tw, th, func(x, y int) {
						if x < 0 || x >= w || y < 0 || y >= h || times[[2]int{x, y}] > 0 {
							t.Errorf("%d, %d: tile %d: place %d, %d is outside, or twice", w, h, tile, x, y)
						}
						times[[2]int{x, y}]++
					})
				})
				if len(times) != w*h {
					t.Errorf("%d, %d: tile %d: %d places", w, h, tile, len(times))
				}
			}
		}
	}
}
