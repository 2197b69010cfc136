package light

// eachTile goes through the tiles of w columns and h rows; at the ends they are cut off.
func eachTile(w, h, tile int, do func(x, y, w, h int)) {
	for y := 0; y < h; y += tile {
		for x := 0; x < w; x += tile {
			do(x, y, min(tile, w-x), min(tile, h-y))
		}
	}
}

// eachPlace goes through the w columns and h rows from (x, y) on.
func eachPlace(x, y, w, h int, do func(x, y int)) {
	for row := range h {
		for column := range w {
			do(x+column, y+row)
		}
	}
}
