package wire

import "underpaint/api"

// How many bytes numbers have that do not go into one.
const (
	bytesOfK     = 3
	bytesOfPower = 2
)

// appendFrame puts the bytes of a right frame behind b.
func appendFrame(b []byte, f api.Frame) []byte {
	b = append(b, byte(f.W), byte(f.H), byte(f.Slots), byte(f.Out), byte(len(f.Passes)))
	for _, p := range f.Passes {
		b = append(b, byte(p.Op), byte(p.To), byte(p.A), byte(p.B))
		b = appendNumber(b, p.K, bytesOfK)
		b = append(b, byte(len(p.Lights)))
		for _, l := range p.Lights {
			b = append(b, byte(l.X), byte(l.Y), byte(l.Reach))
			b = appendNumber(b, l.Power, bytesOfPower)
		}
	}
	return b
}

// appendNumber puts the lowest bytes of a number, that many, behind b, the highest first. The shift keeps the sign, so of one below 0 they are those of it and 2^24, as K needs them.
func appendNumber(b []byte, n, many int) []byte {
	for i := many - 1; i >= 0; i-- {
		b = append(b, byte(n>>(8*i)))
	}
	return b
}
