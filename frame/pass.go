package frame

import (
	"underpaint/api"
	"underpaint/light"
)

// fields are those that a pass has by its operation; To has each.
type fields struct{ a, b, k, lights bool }

// fieldsOf an operation, if there is such a one.
func fieldsOf(op int) (has fields, known bool) {
	switch op {
	case api.Fill, api.Ramp:
		return fields{k: true}, true
	case api.Copy, api.Blur, api.Down, api.Up:
		return fields{a: true}, true
	case api.Cut, api.Shift:
		return fields{a: true, k: true}, true
	case api.Add, api.Sub, api.Mul, api.Most:
		return fields{a: true, b: true}, true
	case api.Lit:
		return fields{a: true, k: true, lights: true}, true
	}
	return fields{}, false
}

// takes are the slots out of which a pass takes images.
func takes(p api.Pass) []int {
	has, _ := fieldsOf(p.Op)
	switch {
	case has.b:
		return []int{p.A, p.B}
	case has.a:
		return []int{p.A}
	}
	return nil
}

// checkPass tells the errors that a pass has by itself, wherever it stands among others.
func checkPass(p api.Pass, many int) api.Errno {
	has, known := fieldsOf(p.Op)
	if !known {
		return api.ErrKind
	}
	if !hasSlots(p, many) || has.k && !isK(p.Op, p.K) {
		return api.ErrRange
	}
	if has.lights {
		if e := light.Check(p.Lights); e != api.OK {
			return e
		}
	}
	if !isBare(p, has) || takesOwn(p) {
		return api.ErrForm
	}
	return api.OK
}

// hasSlots: the slots that a pass names are among that many.
func hasSlots(p api.Pass, many int) bool {
	for _, slot := range takes(p) {
		if !isSlot(slot, many) {
			return false
		}
	}
	return isSlot(p.To, many)
}

// isK: k is as the chapter of the operation asks.
func isK(op, k int) bool {
	switch op {
	case api.Shift:
		return within(k, -api.MaxSide, api.MaxSide)
	case api.Lit:
		return within(k, 1, api.MaxSide)
	}
	return within(k, 0, api.Top)
}

// isBare: there is nothing in the fields that a pass has not.
func isBare(p api.Pass, has fields) bool {
	return (has.a || p.A == 0) && (has.b || p.B == 0) && (has.k || p.K == 0) && (has.lights || len(p.Lights) == 0)
}

// takesOwn: a pass takes what lies in the slot that it makes its image for.
func takesOwn(p api.Pass) bool {
	for _, slot := range takes(p) {
		if slot == p.To {
			return true
		}
	}
	return false
}

// sizeOf the image that a pass makes out of images of those sizes, if they fit.
func sizeOf(f api.Frame, p api.Pass, from []api.Size) (size api.Size, fits bool) {
	switch p.Op {
	case api.Fill, api.Ramp:
		return api.Size{W: f.W, H: f.H}, true
	case api.Down:
		return api.Size{W: from[0].W / 2, H: from[0].H / 2}, from[0].W%2 == 0 && from[0].H%2 == 0
	case api.Up:
		return api.Size{W: 2 * from[0].W, H: 2 * from[0].H}, 2*max(from[0].W, from[0].H) <= api.MaxSide
	case api.Add, api.Sub, api.Mul, api.Most:
		return from[0], from[0] == from[1]
	}
	return from[0], true
}
