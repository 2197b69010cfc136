package wire

import (
	"underpaint/api"
	"underpaint/frame"
)

// rightFrame of which these are the bytes; if there is none it panics.
func rightFrame(s string) api.Frame {
	r := reader{s}
	f := r.frame()
	// No other frame could have these bytes, so if this one is not right, none is.
	if r.left != "" || frame.Check(f) != api.OK {
		panic(api.ErrForm)
	}
	return f
}

// reader takes numbers from bytes, as long as some are left; if there are too few it panics.
type reader struct{ left string }

func (r *reader) frame() api.Frame {
	f := api.Frame{W: r.number(1), H: r.number(1), Slots: r.number(1), Out: r.number(1)}
	for range r.number(1) {
		f.Passes = append(f.Passes, r.pass())
	}
	return f
}

func (r *reader) pass() api.Pass {
	p := api.Pass{Op: r.number(1), To: r.number(1), A: r.number(1), B: r.number(1), K: r.signed(bytesOfK)}
	for range r.number(1) {
		p.Lights = append(p.Lights, r.light())
	}
	return p
}

func (r *reader) light() api.Light {
	return api.Light{X: r.number(1), Y: r.number(1), Reach: r.number(1), Power: r.number(bytesOfPower)}
}

// number of that many bytes, the highest first.
func (r *reader) number(many int) int {
	if len(r.left) < many {
		panic(api.ErrForm)
	}
	n := 0
	for i := range many {
		n = n<<8 | int(r.left[i])
	}
	r.left = r.left[many:]
	return n
}

// signed: the upper half of the numbers of that many bytes stands for those below 0.
func (r *reader) signed(many int) int {
	n, all := r.number(many), 1<<(8*many)
	if n >= all/2 {
		return n - all
	}
	return n
}
