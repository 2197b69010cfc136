package image

import "underpaint/api"

// rulesOfTwo: by operation, what becomes of two numbers.
func rulesOfTwo() map[int]func(m, n int) int {
	return map[int]func(m, n int) int{
		api.Add:  func(m, n int) int { return min(m+n, api.Top) },
		api.Sub:  func(m, n int) int { return max(m-n, 0) },
		api.Mul:  func(m, n int) int { return m * n / api.Top },
		api.Most: func(m, n int) int { return max(m, n) },
	}
}
