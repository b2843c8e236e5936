// Package digest: H, and the ids that are made of it: see DOC.md.
package digest

// Size is how many bytes a number of 64 bits has, and so an id.
const Size = 8

const (
	start uint64 = 14695981039346656037
	prime uint64 = 1099511628211
)

// H tells the number of 64 bits that stands for some bytes.
func H(s string) uint64 {
	h := start
	for i := range len(s) {
		h = (h ^ uint64(s[i])) * prime
	}
	return h
}

// Bytes tells the eight bytes of a number, the highest first.
func Bytes(n uint64) string {
	var b [Size]byte
	for i := range b {
		b[i] = byte(n >> (56 - 8*i))
	}
	return string(b[:])
}

// ID tells the id that some bytes have.
func ID(s string) string {
	return Bytes(H(s))
}
