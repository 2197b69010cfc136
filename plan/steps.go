package plan

import "underpaint/api"

// stepsOf tells at which step each pass of an order is done, if all in it are passes, of which there are that many, and none is there twice.
func stepsOf(order []int, many int) (steps map[int]int, once bool) {
	steps = make(map[int]int)
	for step, pass := range order {
		if pass < 0 || pass >= many {
			return nil, false
		}
		if _, twice := steps[pass]; twice {
			return nil, false
		}
		steps[pass] = step
	}
	return steps, true
}

// hasAll: each pass that is kept has a step.
func hasAll(steps map[int]int, kept []bool) bool {
	for pass, needed := range kept {
		if _, done := steps[pass]; needed && !done {
			return false
		}
	}
	return true
}

// isBehind: each pass that has a step is done behind all whose images it takes.
func isBehind(steps map[int]int, sources [][]int) bool {
	for pass, from := range sources {
		step, done := steps[pass]
		if !done {
			continue
		}
		for _, source := range from {
			if ahead, there := steps[source]; !there || ahead > step {
				return false
			}
		}
	}
	return true
}

// isPlaced: just those passes that have a step have a place.
func isPlaced(steps map[int]int, places []int, many int) bool {
	if len(places) != many {
		return false
	}
	for pass, place := range places {
		_, done := steps[pass]
		if done && (place < 0 || place > api.MaxArena) || !done && place != -1 {
			return false
		}
	}
	return true
}
