package wire

import (
	"math"
	"reflect"
	"slices"
	"strings"
	"testing"

	"underpaint/api"
	"underpaint/frame"
)

// five is the frame of the document's example 3.
func five() api.Frame {
	return api.Frame{W: 4, H: 2, Slots: 3, Out: 2, Passes: []api.Pass{
		{Op: api.Ramp, To: 0, K: 100},
		{Op: api.Fill, To: 1, K: 7},
		{Op: api.Blur, To: 2, A: 0},
		{Op: api.Fill, To: 1, K: 9},
		{Op: api.Add, To: 2, A: 0, B: 1},
	}}
}

const bytesOfFive = "\x04\x02\x03\x02\x05" +
	"\x02\x00\x00\x00\x00\x00\x64\x00" +
	"\x01\x01\x00\x00\x00\x00\x07\x00" +
	"\x0a\x02\x00\x00\x00\x00\x00\x00" +
	"\x01\x01\x00\x00\x00\x00\x09\x00" +
	"\x04\x02\x00\x01\x00\x00\x00\x00"

// lit is a frame with lights, and with numbers of more than one byte.
func lit() api.Frame {
	return api.Frame{W: 16, H: 15, Slots: 8, Out: 6, Passes: []api.Pass{
		{Op: api.Fill, To: 7, K: 65535},
		{Op: api.Ramp, To: 5, K: 0x1234},
		{Op: api.Lit, To: 6, A: 7, K: 16, Lights: []api.Light{{X: 15, Y: 14, Reach: 32, Power: 65535}, {X: 0, Y: 1, Reach: 1, Power: 0x0102}}},
		{Op: api.Shift, To: 3, A: 6, K: -16},
		{Op: api.Shift, To: 4, A: 3, K: -1},
		{Op: api.Shift, To: 3, A: 4, K: 16},
		{Op: api.Lit, To: 2, A: 3, K: 1},
		{Op: api.Most, To: 6, A: 2, B: 5},
	}}
}

const bytesOfLit = "\x10\x0f\x08\x06\x08" +
	"\x01\x07\x00\x00\x00\xff\xff\x00" +
	"\x02\x05\x00\x00\x00\x12\x34\x00" +
	"\x0d\x06\x07\x00\x00\x00\x10\x02" + "\x0f\x0e\x20\xff\xff" + "\x00\x01\x01\x01\x02" +
	"\x09\x03\x06\x00\xff\xff\xf0\x00" +
	"\x09\x04\x03\x00\xff\xff\xff\x00" +
	"\x09\x03\x04\x00\x00\x00\x10\x00" +
	"\x0d\x02\x03\x00\x00\x00\x01\x00" +
	"\x07\x06\x02\x05\x00\x00\x00\x00"

// alike: an empty list may be nil or not.
func alike(f, g api.Frame) bool {
	return f.W == g.W && f.H == g.H && f.Slots == g.Slots && f.Out == g.Out && slices.EqualFunc(f.Passes, g.Passes, func(p, q api.Pass) bool {
		same := slices.Equal(p.Lights, q.Lights)
		p.Lights, q.Lights = nil, nil
		return same && reflect.DeepEqual(p, q)
	})
}

// H1, example 8.
func TestBytes(t *testing.T) {
	if len(bytesOfFive) != 45 {
		t.Errorf("example 8 has 45 bytes, not %d", len(bytesOfFive))
	}
	for _, x := range []struct {
		f api.Frame
		s string
	}{
		{five(), bytesOfFive},
		{lit(), bytesOfLit},
		{api.Frame{W: 1, H: 1, Slots: 1, Passes: []api.Pass{{Op: api.Fill}}}, "\x01\x01\x01\x00\x01" + "\x01\x00\x00\x00\x00\x00\x00\x00"},
	} {
		if s, e := Write(x.f); s != x.s || e != api.OK {
			t.Errorf("%v is written as %q, %d, must be %q", x.f, s, e, x.s)
		}
		if f, e := Read(x.s); !alike(f, x.f) || e != api.OK {
			t.Errorf("%q is read as %v, %d, must be %v", x.s, f, e, x.f)
		}
	}
}

// H1: the longest frame.
func TestLongest(t *testing.T) {
	f := api.Frame{W: 16, H: 16, Slots: 8, Out: 1, Passes: []api.Pass{{Op: api.Ramp, To: 0, K: 65535}}}
	for i := 1; i < api.MaxPasses; i++ {
		f.Passes = append(f.Passes, api.Pass{Op: api.Lit, To: i % 2, A: 1 - i%2, K: 16, Lights: slices.Repeat([]api.Light{{X: 15, Y: 15, Reach: 32, Power: 65535}}, 8)})
	}
	s, e := Write(f)
	if len(s) != 5+8+11*48 || e != api.OK {
		t.Errorf("it has %d bytes, %d", len(s), e)
	}
	if g, e := Read(s); !alike(f, g) || e != api.OK {
		t.Errorf("it is read as %v, %d", g, e)
	}
}

// H1: frame.Check's errors, and nothing with them.
func TestWriteErrors(t *testing.T) {
	for _, x := range []struct {
		name string
		turn func(f *api.Frame)
		want api.Errno
	}{
		{"columns", func(f *api.Frame) { f.W = 256 + 4 }, api.ErrRange},
		{"rows", func(f *api.Frame) { f.H = -254 }, api.ErrRange},
		{"K", func(f *api.Frame) { f.Passes[0].K = 1<<24 + 100 }, api.ErrRange},
		{"K below 0", func(f *api.Frame) { f.Passes[0].K = math.MinInt }, api.ErrRange},
		{"no pass", func(f *api.Frame) { f.Passes = nil }, api.ErrMany},
		{"many", func(f *api.Frame) { f.Passes = slices.Repeat(f.Passes, 3) }, api.ErrMany},
		{"kind", func(f *api.Frame) { f.Passes[1].Op = 256 + api.Fill }, api.ErrKind},
		{"form", func(f *api.Frame) { f.Passes[1].A = 1 }, api.ErrForm},
		{"lights", func(f *api.Frame) { f.Passes[1].Lights = make([]api.Light, 1) }, api.ErrForm},
		{"none", func(f *api.Frame) { f.Passes = f.Passes[:2] }, api.ErrNone},
		{"size", func(f *api.Frame) { f.W = 9; f.Passes[2].Op = api.Up }, api.ErrSize},
		{"all of it", func(f *api.Frame) { *f = api.Frame{} }, api.ErrRange},
	} {
		f := five()
		x.turn(&f)
		if s, e := Write(f); s != "" || e != x.want {
			t.Errorf("%s: it is %q, %d, must be nothing, %d", x.name, s, e, x.want)
		}
	}
}

// refused: the bytes are read as nothing, with that error.
func refused(t *testing.T, name, s string, want api.Errno) {
	t.Helper()
	if f, e := Read(s); !reflect.DeepEqual(f, api.Frame{}) || e != want {
		t.Errorf("%s: %q is read as %v, %d, must be nothing, %d", name, s, f, e, want)
	}
}

// H1, H2: bytes that are too few, or too many.
func TestLengths(t *testing.T) {
	for _, s := range []string{bytesOfFive, bytesOfLit} {
		for n := range len(s) {
			refused(t, "too few", s[:n], api.ErrForm)
			refused(t, "one left out", s[:n]+s[n+1:], api.ErrForm)
		}
		refused(t, "one too many", s+"\x00", api.ErrForm)
		refused(t, "a pass too many", s+s[5:13], api.ErrForm)
		refused(t, "twice", s+s, api.ErrForm)
		refused(t, "as many as may be", s+strings.Repeat("\x00", api.MaxBytes-len(s)), api.ErrForm)
		refused(t, "more than may be", s+strings.Repeat("\x00", api.MaxBytes-len(s)+1), api.ErrMany)
	}
	for _, c := range []string{"\x00", "\x01", "a", "\xff"} {
		refused(t, "as many as may be", strings.Repeat(c, api.MaxBytes), api.ErrForm)
		refused(t, "more than may be", strings.Repeat(c, api.MaxBytes+1), api.ErrMany)
		refused(t, "far more than may be", strings.Repeat(c, 1<<20), api.ErrMany)
	}
}

// H1: bytes that have their form, but are those of no right frame.
func TestNotRight(t *testing.T) {
	turn := func(name, s string, at int, with string) {
		t.Helper()
		refused(t, name, s[:at]+with+s[at+len(with):], api.ErrForm)
	}
	turn("no columns", bytesOfFive, 0, "\x00")
	turn("too many columns", bytesOfFive, 0, "\x11")
	turn("too many rows", bytesOfFive, 1, "\xff")
	turn("no slots", bytesOfFive, 2, "\x00")
	turn("too many slots", bytesOfFive, 2, "\x09")
	turn("no slot is shown", bytesOfFive, 3, "\x03")
	turn("no operation", bytesOfFive, 5, "\x00")
	turn("no such operation", bytesOfFive, 5, "\x0e")
	turn("no slot", bytesOfFive, 6, "\x03")
	turn("a field that it has not", bytesOfFive, 7, "\x01")
	turn("K of one that has none", bytesOfFive, 5+2*8+6, "\x01")
	turn("K too great", bytesOfFive, 5+4, "\x01\x00\x00")
	turn("K as great as may be in its bytes", bytesOfFive, 5+4, "\x7f\xff\xff")
	turn("K as small as may be in its bytes", bytesOfFive, 5+4, "\x80\x00\x00")
	turn("K below 0", bytesOfFive, 5+4, "\xff\xff\xff")
	turn("nothing lies in A", bytesOfFive, 6, "\x01")
	turn("nothing lies in Out", bytesOfLit, 3, "\x00")
	turn("A is To", bytesOfFive, 5+4*8+2, "\x02")
	turn("a shift too far", bytesOfLit, 5+3*8+10+4, "\xff\xff\xef")
	turn("a shift too far, the other way", bytesOfLit, 5+3*8+10+4, "\x00\x00\x11")
	turn("a shift that is not below 0", bytesOfLit, 5+3*8+10+4, "\x00\xff\xf0")
	turn("a light beyond all columns", bytesOfLit, 5+3*8, "\x10")
	turn("a light without reach", bytesOfLit, 5+3*8+2, "\x00")
	refused(t, "no passes", "\x04\x02\x03\x02\x00", api.ErrForm)
	refused(t, "thirteen passes", "\x01\x01\x01\x00\x0d"+strings.Repeat("\x01\x00\x00\x00\x00\x00\x00\x00", 13), api.ErrForm)
	refused(t, "255 passes", "\x01\x01\x01\x00\xff"+strings.Repeat("\x01\x00\x00\x00\x00\x00\x00\x00", 255), api.ErrForm)
	refused(t, "nine lights", "\x01\x01\x02\x01\x02"+"\x01\x00\x00\x00\x00\x00\x00\x00"+"\x0d\x01\x00\x00\x00\x00\x01\x09"+strings.Repeat("\x00\x00\x01\x00\x00", 9), api.ErrForm)
	refused(t, "a light of one that has none", "\x01\x01\x02\x00\x01"+"\x01\x00\x00\x00\x00\x00\x00\x01"+"\x00\x00\x01\x00\x00", api.ErrForm)
	if _, e := Read("\x01\x01\x01\x00\x0c" + strings.Repeat("\x01\x00\x00\x00\x00\x00\x00\x00", 12)); e != api.OK {
		t.Errorf("twelve passes: error %d", e)
	}
}

// H2: whatever is read is written as it was, whichever byte is another one; and what is not read is no right frame's.
func TestEachByte(t *testing.T) {
	for _, s := range []string{bytesOfFive, bytesOfLit} {
		read := 0
		for i := range len(s) {
			for c := range 256 {
				x := []byte(s)
				x[i] = byte(c)
				f, e := Read(string(x))
				if e != api.OK {
					refused(t, "another byte", string(x), api.ErrForm)
					continue
				}
				read++
				if frame.Check(f) != api.OK {
					t.Fatalf("%q is read as %v, which is not right", x, f)
				}
				if again, e := Write(f); again != string(x) || e != api.OK {
					t.Fatalf("%q is read as %v, which is written as %q, %d", x, f, again, e)
				}
			}
		}
		if read < 1000 {
			t.Errorf("%d were read only", read)
		}
	}
}

// P2: what is handed in is only read, and no two lists of an answer share memory.
func TestMemory(t *testing.T) {
	f := lit()
	f.Passes = append(f.Passes, api.Pass{Op: -7})[:8]
	f.Passes[2].Lights = append(f.Passes[2].Lights, api.Light{X: -7})[:2]
	Write(f)
	if !reflect.DeepEqual(f, lit()) || f.Passes[:9][8].Op != -7 || f.Passes[2].Lights[:3][2].X != -7 {
		t.Errorf("what was handed in was changed: %v", f)
	}
	s := "\x02\x02\x03\x02\x03" + "\x01\x00\x00\x00\x00\x00\x00\x00" +
		"\x0d\x01\x00\x00\x00\x00\x01\x01" + "\x01\x01\x01\x00\x09" + "\x0d\x02\x01\x00\x00\x00\x01\x01" + "\x01\x01\x01\x00\x09"
	one, e := Read(s)
	two, _ := Read(s)
	if e != api.OK || len(one.Passes) != 3 {
		t.Fatalf("it is read as %v, %d", one, e)
	}
	l := one.Passes[1].Lights
	clear(l[:cap(l)])
	if one.Passes[2].Lights[0] != (api.Light{X: 1, Y: 1, Reach: 1, Power: 9}) {
		t.Errorf("two lists share memory: %v", one)
	}
	l = one.Passes[2].Lights
	clear(l[:cap(l)])
	clear(one.Passes[:cap(one.Passes)])
	if again, _ := Write(two); again != s {
		t.Errorf("two answers share memory: %v", two)
	}
}

// Ways: bytes that are not as they must be are left by a panic, which Read must not let out.
func TestLeft(t *testing.T) {
	for _, s := range []string{"", "\x04", bytesOfFive[:20], bytesOfFive + "\x00", strings.Repeat("\x00", 13)} {
		func() {
			defer func() {
				if recover() == nil {
					t.Errorf("of %q there is a right frame", s)
				}
			}()
			rightFrame(s)
		}()
	}
}
