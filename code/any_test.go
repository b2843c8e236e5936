package code_test

import (
	"math/rand"
	"strings"
	"testing"

	"coinage/api"
	"coinage/code"
)

func source(seed int64) *rand.Rand {
	return rand.New(rand.NewSource(seed))
}

// piece: bytes that are mostly code that goes on for some steps.
func piece(r *rand.Rand) string {
	var b []byte
	for n := r.Intn(33); len(b) < n; {
		switch k := r.Intn(40); {
		case k < 12:
			b = append(b, byte(r.Intn(3)))
		case k < 14:
			b = append(b, byte(r.Intn(64)))
		case k < 16:
			b = append(b, 0x40)
			for range 8 {
				b = append(b, []byte{0, 0, 0x40, 0x50, 0x51, 0x52, 0xff}[r.Intn(7)])
			}
		case k < 25:
			b = append(b, byte(0x41+r.Intn(13)))
		case k < 30:
			b = append(b, 0x50)
		case k < 33:
			b = append(b, 0x51)
		case k < 39:
			b = append(b, 0x52)
		default:
			b = append(b, byte(r.Intn(256)))
		}
	}
	return string(b[:min(len(b), 32)])
}

// calm: 32 bytes of code that goes on to its end, or nearly.
func calm(r *rand.Rand) string {
	b := []byte{1}
	for len(b) < 32 {
		b = append(b, []string{"\x00\x42", "\x49", "\x4a", "\x41\x42", "\x07\x44", "\x01\x50\x52", "\x00\x50\x51\x52"}[r.Intn(7)]...)
	}
	if r.Intn(2) == 0 {
		b[31] = byte(r.Intn(256))
	}
	return string(b[:32])
}

// modelled: Run answers what the model does, the second time too.
func modelled(t *testing.T, key, lock, id string, height int) api.Errno {
	t.Helper()
	want, steps := model(key, lock, id, height)
	for range 2 {
		if e, n := code.Run(key, lock, id, height); e != want || n != steps {
			t.Errorf("P6: Run(%x, %x, %x, %d) = %d, %d, want %d, %d", key, lock, id, height, e, n, want, steps)
		}
	}
	return want
}

func TestAnyCode(t *testing.T) {
	r := source(1)
	seen := map[api.Errno]int{}
	for range 100000 {
		seen[modelled(t, piece(r), piece(r), someID, r.Intn(4))]++
		seen[modelled(t, calm(r), calm(r)[:r.Intn(33)], someID, r.Intn(4))]++
	}
	for _, e := range []api.Errno{api.OK, api.ErrOp, api.ErrStack, api.ErrSteps, api.ErrNest, api.ErrVerify, api.ErrFalse} {
		if seen[e] == 0 {
			t.Errorf("the pieces of this test never come to %d", e)
		}
	}
}

// balanced: code whose Ifs have their Ends, so that it goes deep.
func balanced(r *rand.Rand, room int) string {
	var b strings.Builder
	for b.Len() < room {
		left := room - b.Len()
		switch k := r.Intn(8); {
		case k < 3:
			b.WriteByte(byte(r.Intn(2)))
		case k < 5 && left > 4:
			b.WriteString(string([]byte{byte(r.Intn(2)), 0x50}) + balanced(r, r.Intn(left-3)))
			if r.Intn(2) == 0 {
				b.WriteString("\x51" + balanced(r, r.Intn(3)))
			}
			b.WriteByte(0x52)
		case k == 5 && left > 9:
			b.WriteString(push(r.Uint64()))
		case k == 6:
			b.WriteByte(byte(0x41 + r.Intn(13)))
		default:
			b.WriteByte(0x42)
		}
	}
	return b.String()
}

func TestBalancedCode(t *testing.T) {
	r := source(2)
	for range 100000 {
		key, lock := strings.Repeat("\x01", r.Intn(9)), balanced(r, r.Intn(31))
		modelled(t, key, lock[:min(len(lock), 32)], someID, r.Intn(3))
	}
}

// TestShortCode: every piece of these bytes up to a length.
func TestShortCode(t *testing.T) {
	var all func(s string, bytes string, room int)
	all = func(s string, bytes string, room int) {
		modelled(t, "\x01\x00\x01", s, someID, someHeight)
		if room == 0 {
			return
		}
		for i := range len(bytes) {
			all(s+bytes[i:i+1], bytes, room-1)
		}
	}
	all("", "\x00\x01\x50\x51\x52", 6)
	all("", "\x50\x51\x52", 9)
	all("", "\x01\x40\x50\x52\xff", 5)
	all("", "\x00\x07\x41\x42\x43\x44\x45\x46\x47\x48\x49\x4a\x4b\x4c\x4d", 3)
}

func TestAnyInputs(t *testing.T) {
	r := source(3)
	bytes := func(n int) string {
		b := make([]byte, n)
		r.Read(b)
		return string(b)
	}
	for range 50000 {
		modelled(t, bytes(r.Intn(40)), bytes(r.Intn(40)), bytes(6+r.Intn(4)), r.Intn(6)-2)
		modelled(t, bytes(r.Intn(33)), bytes(r.Intn(33)), bytes(8), int(r.Uint64()>>1))
	}
	for v := range 256 {
		one := string([]byte{byte(v)})
		for _, n := range []int{0, 1, 2, 16, 17, 31, 32, 33} {
			for _, key := range []string{"", "\x00", "\x01", strings.Repeat("\x01", 16), strings.Repeat("\x01", 32)} {
				modelled(t, key, strings.Repeat(one, n), someID, someHeight)
				modelled(t, strings.Repeat(one, n), key, someID, someHeight)
			}
		}
	}
}
