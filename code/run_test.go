package code_test

import (
	"fmt"
	"math"
	"strings"
	"testing"

	"coinage/api"
	"coinage/code"
)

func TestExamples(t *testing.T) {
	for _, c := range []struct {
		key, lock string
		e         api.Errno
		steps     int
	}{
		{"", "01", api.OK, 1},
		{"0203", "440547", api.OK, 5},
		{"02", "440547", api.ErrStack, 2},
		{"", "00", api.ErrFalse, 1},
		{"", "", api.ErrFalse, 0},
		{"00", "504c510152", api.OK, 4},
		{"01", "5005510652", api.OK, 4},
		{"", "0150", api.ErrNest, 2},
		{"", "0152", api.ErrNest, 2},
		{"", "0050ff5201", api.OK, 3},
		{"", "4000", api.ErrOp, 1},
	} {
		written(t, c.key, c.lock, c.e, c.steps)
	}
	leaves(t, raw(t, "01 5005510652"), 4, 5)
}

func TestForm(t *testing.T) {
	long := strings.Repeat("\x01", 33)
	for _, c := range []struct {
		key, lock, id string
		height        int
	}{
		{long, "\x01", someID, 0},
		{"", long, someID, 0},
		{strings.Repeat("\x01", 100000), "\x01", someID, 0},
		{"", strings.Repeat("\x01", 100000), someID, 0},
		{strings.Repeat("é", 17), "\x01", someID, 0},
		{"", "\x01", "", 0},
		{"", "\x01", someID[1:], 0},
		{"", "\x01", someID + "i", 0},
		{"", "\x01", strings.Repeat(someID, 2), 0},
		{"", "\x01", "éééééééé", 0},
		{"", "\x01", someID, -1},
		{"", "\x01", someID, -1 << 32},
		{"", "\x01", someID, math.MinInt},
		{"\xff", "\x50", "", 0},
		{long, long, "", -1},
	} {
		if e, n := code.Run(c.key, c.lock, c.id, c.height); e != api.ErrForm || n != 0 {
			t.Errorf("P6: Run(%.40x, %.40x, %x, %d) = %d, %d, want %d, 0", c.key, c.lock, c.id, c.height, e, n, api.ErrForm)
		}
	}
}

func TestFormEdges(t *testing.T) {
	most := push(1) + "\x42" + push(2) + "\x42" + push(3) + "\x42\x00\x49"
	for _, c := range []struct {
		key, lock, id string
		height, steps int
	}{
		{most, "", someID, 0, 8},
		{"", most, someID, 0, 8},
		{most, most, someID, 0, 16},
		{"", "\x01", "\x00\x00\x00\x00\x00\x00\x00\x00", 0, 1},
		{"", "\x01", "\xff\xff\xff\xff\xff\xff\xff\xff", 0, 1},
		{"", "\x01", "éééé", 0, 1},
		{"", "\x01", someID, math.MaxInt, 1},
	} {
		if e, n := code.Run(c.key, c.lock, c.id, c.height); e != api.OK || n != c.steps {
			t.Errorf("P6: Run(%x, %x, %x, %d) = %d, %d, want 0, %d", c.key, c.lock, c.id, c.height, e, n, c.steps)
		}
	}
}

func TestSmallNumbers(t *testing.T) {
	for v := range 64 {
		leaves(t, string([]byte{byte(v)}), 1, uint64(v))
	}
}

func TestPush(t *testing.T) {
	for _, n := range []uint64{0, 1, 63, 64, 255, 256, 0x0102030405060708, 0xfffefdfcfbfaf9f8, 1 << 63, math.MaxUint64, 0x5051525051525051, 0x4040404040404040} {
		leaves(t, push(n), 1, n)
		leaves(t, push(n)+"\x07", 2, 7, n)
	}
}

func TestPushCutOff(t *testing.T) {
	for n := range 8 {
		short := "\x40" + strings.Repeat("\x01", n)
		answers(t, "", short, api.ErrOp, 1)
		answers(t, short, "\x01\x01\x01\x01\x01\x01\x01\x01", api.ErrOp, 1)
		answers(t, "\x05", "\x06"+short, api.ErrOp, 3)
	}
	answers(t, "", strings.Repeat("\x01", 23)+push(1)[:9], api.ErrStack, 17)
	answers(t, strings.Repeat("\x01", 16), "\x40\x01", api.ErrOp, 17)
}

// TestUnknownBytes: each byte that does nothing, behind each other thing that
// could go wrong with the same step.
func TestUnknownBytes(t *testing.T) {
	for v := 0x4e; v < 256; v++ {
		if v >= 0x50 && v <= 0x52 {
			continue
		}
		op := string([]byte{byte(v)})
		answers(t, "", op, api.ErrOp, 1)
		answers(t, op, "\x01", api.ErrOp, 1)
		answers(t, "\x00", op+"\x01", api.ErrOp, 2)
		answers(t, strings.Repeat("\x01", 16), op, api.ErrOp, 17)
		answers(t, "\x00", "\x50"+op+"\x52\x01", api.OK, 3)
		answers(t, "\x01", "\x50"+op+"\x52\x01", api.ErrOp, 3)
	}
}

func TestStackOps(t *testing.T) {
	leaves(t, "\x05\x41", 2, 5, 5)
	leaves(t, "\x05\x06\x42", 3, 5)
	leaves(t, "\x05\x42", 2)
	leaves(t, "\x05\x06\x43", 3, 5, 6)
	leaves(t, "\x05\x06\x07\x43\x42", 5, 7, 5)
}

func TestArithmetic(t *testing.T) {
	big := []uint64{0, 1, 2, 3, 7, 1<<32 - 1, 1 << 32, 1<<63 - 1, 1 << 63, 1<<63 + 1, math.MaxUint64 - 1, math.MaxUint64}
	for _, x := range big {
		for _, y := range big {
			two := push(x) + push(y)
			leaves(t, two+"\x44", 3, x+y)
			leaves(t, two+"\x45", 3, x-y)
			leaves(t, two+"\x46", 3, x*y)
			eq, less := uint64(0), uint64(0)
			if x == y {
				eq = 1
			}
			if x < y {
				less = 1
			}
			leaves(t, two+"\x47", 3, eq)
			leaves(t, two+"\x48", 3, less)
			leaves(t, "\x09"+two+"\x45", 4, x-y, 9)
		}
		not := uint64(0)
		if x == 0 {
			not = 1
		}
		leaves(t, push(x)+"\x49", 2, not)
	}
}

func TestHash(t *testing.T) {
	for _, x := range []uint64{0, 1, 5, 255, 256, 0x0102030405060708, 1 << 63, math.MaxUint64} {
		leaves(t, push(x)+"\x4a", 2, sum(eight(x)))
		leaves(t, "\x08"+push(x)+"\x4a\x4a", 4, sum(eight(sum(eight(x)))), 8)
	}
}

func TestSign(t *testing.T) {
	for _, k := range []uint64{0, 1, 7, 256, 0x0102030405060708, math.MaxUint64} {
		for _, id := range []string{someID, "\x00\x00\x00\x00\x00\x00\x00\x09", "\xff\xfe\xfd\xfc\xfb\xfa\xf9\xf8"} {
			s := sum(eight(k) + id)
			for _, c := range []struct {
				s, k uint64
				id   string
				e    api.Errno
			}{
				{s, k, id, api.OK},
				{s + 1, k, id, api.ErrFalse},
				{s, k + 1, id, api.ErrFalse},
				{k, s, id, api.ErrFalse},
				{s, k, "abcdefgi", api.ErrFalse},
				{sum(id + eight(k)), k, id, api.ErrFalse},
				{sum(eight(k)), k, id, api.ErrFalse},
			} {
				if e, n := code.Run(push(c.s)+push(c.k), "\x4b", c.id, someHeight); e != c.e || n != 3 {
					t.Errorf("P6: Sign of %x by %x for %x = %d, %d, want %d, 3", c.s, c.k, c.id, e, n, c.e)
				}
			}
		}
	}
	leaves(t, "\x09"+push(sum(eight(7)+someID))+"\x07\x4b", 4, 1, 9)
	leaves(t, "\x09\x09\x07\x4b", 4, 0, 9)
}

func TestVerify(t *testing.T) {
	answers(t, "\x00", "\x4c\x01", api.ErrVerify, 2)
	answers(t, "\x01\x00", "\x4c", api.ErrVerify, 3)
	for _, n := range []uint64{1, 2, 63, 256, 1 << 32, 1 << 63, math.MaxUint64} {
		leaves(t, "\x09"+push(n)+"\x4c", 3, 9)
		answers(t, push(n), "\x4c", api.ErrFalse, 2)
	}
}

func TestHeight(t *testing.T) {
	leaves(t, "\x4d", 1, someHeight)
	for _, h := range []int{0, 1, 2, 48, 255, 256, 1 << 32, math.MaxInt} {
		for _, c := range []struct {
			n uint64
			e api.Errno
		}{{uint64(h), api.OK}, {uint64(h) + 1, api.ErrFalse}} {
			if e, n := code.Run("", "\x4d"+push(c.n)+"\x47", someID, h); e != c.e || n != 3 {
				t.Errorf("P6: Height of %d held against %d = %d, %d", h, c.n, e, n)
			}
		}
	}
}

// TestStackEdges: every operation, over every number of numbers.
func TestStackEdges(t *testing.T) {
	for _, r := range opRows() {
		op, steps := string([]byte{r.op}), 1
		switch r.op {
		case 0x40:
			op = push(1)
		case 0x50:
			op, steps = "\x50\x52", 2
		}
		for n := range 17 {
			key := strings.Repeat("\x01", n)
			if n < r.takes || n-r.takes+r.puts > 16 {
				answers(t, key, op, api.ErrStack, n+1)
				continue
			}
			left := n - r.takes + r.puts
			answers(t, key, op+strings.Repeat("\x42", left)+"\x42", api.ErrStack, n+steps+left+1)
			answers(t, key, op+strings.Repeat("\x42", left)+"\x01", api.OK, n+steps+left+1)
		}
	}
	answers(t, strings.Repeat("\x01", 17), "", api.ErrStack, 17)
	answers(t, strings.Repeat("\x01", 8), strings.Repeat("\x01", 9), api.ErrStack, 17)
}

func TestEndOfCode(t *testing.T) {
	for _, c := range []struct {
		key, lock string
		e         api.Errno
		steps     int
	}{
		{"01", "", api.OK, 1},
		{"00", "", api.ErrFalse, 1},
		{"0001", "", api.OK, 2},
		{"0100", "", api.ErrFalse, 2},
		{"01", "00", api.ErrFalse, 2},
		{"01", "42", api.ErrFalse, 2},
		{"", "3f", api.OK, 1},
		{"40 0100000000000000", "", api.OK, 1},
		{"40 8000000000000000", "", api.OK, 1},
		{"40 0000000100000000", "", api.OK, 1},
	} {
		written(t, c.key, c.lock, c.e, c.steps)
	}
}

// TestSteps: 40 steps are done, and the 41st is not, whatever it is.
func TestSteps(t *testing.T) {
	key := strings.Repeat("\x01\x42", 16)
	for _, c := range []struct {
		lock  string
		e     api.Errno
		steps int
	}{
		{"01 494949494949", api.OK, 39},
		{"01 49494949494949", api.ErrFalse, 40},
		{"00 49494949494949", api.OK, 40},
		{"00 4949494949494949", api.ErrSteps, 40},
		{"00 49494949494949 ff", api.ErrSteps, 40},
		{"00 494949494949 ff", api.ErrOp, 40},
		{"00 49494949494949 50", api.ErrSteps, 40},
		{"00 494949494949 50", api.ErrNest, 40},
		{"00 49494949494949 52", api.ErrSteps, 40},
		{"00 494949494949 51", api.ErrNest, 40},
		{"00 49494949494949 40", api.ErrSteps, 40},
		{"01 42 424242424242", api.ErrStack, 35},
		{"01 42 42", api.ErrStack, 35},
		{"00 494949494942 42", api.ErrStack, 40},
		{"00 49494949494942 42", api.ErrSteps, 40},
		{"00 49494949494942 4c", api.ErrSteps, 40},
		{"01 494949494941 4c", api.ErrVerify, 40},
		{"0149494949 01 50 52", api.OK, 40},
		{"014949494949 01 50 52", api.ErrSteps, 40},
		{"014949494949 00 50 52", api.ErrFalse, 40},
		{"0149494949 01 50 51 52", api.OK, 40},
		{"014949494949 01 50 51 52", api.ErrSteps, 40},
		{"014949494949 00 50 51 52", api.ErrSteps, 40},
		{"0149494949 00 50 51 52", api.OK, 40},
		{"00 49494949494949 01", api.ErrSteps, 40},
	} {
		answers(t, key, raw(t, c.lock), c.e, c.steps)
	}
	answers(t, strings.Repeat("\x01\x42", 16), strings.Repeat("\x01\x42", 16), api.ErrSteps, 40)
	answers(t, strings.Repeat("\x01\x42", 16), strings.Repeat("\x01\x42", 4), api.ErrFalse, 40)
}

// TestOrder: of the things that are wrong with one step, the one that is named
// first; of two steps the earlier one.
func TestOrder(t *testing.T) {
	full := strings.Repeat("01", 16)
	for _, c := range []struct {
		key, lock string
		e         api.Errno
		steps     int
	}{
		{"", "50", api.ErrNest, 1},
		{"", "5052", api.ErrStack, 1},
		{"", "50515152", api.ErrNest, 1},
		{"", "4c", api.ErrStack, 1},
		{full, "40", api.ErrOp, 17},
		{full, "40 01010101010101", api.ErrOp, 17},
		{full, "40 0101010101010101", api.ErrStack, 17},
		{"ff", "ff", api.ErrOp, 1},
		{"42", "ff", api.ErrStack, 1},
		{"004c", "ff", api.ErrVerify, 2},
		{"00", "4cff", api.ErrVerify, 2},
		{"0050", "ff", api.ErrNest, 2},
		{"01", "ff42", api.ErrOp, 2},
	} {
		written(t, c.key, c.lock, c.e, c.steps)
	}
}

func TestManyAtOnce(t *testing.T) {
	type got struct {
		what string
		ok   bool
	}
	out := make(chan got)
	for w := range 8 {
		go func() {
			r := source(int64(100 + w))
			for range 2000 {
				key, lock := piece(r), piece(r)
				e, n := code.Run(key, lock, someID, someHeight)
				want, steps := model(key, lock, someID, someHeight)
				out <- got{fmt.Sprintf("P6: at the same time: Run(%x, %x) = %d, %d, want %d, %d", key, lock, e, n, want, steps), e == want && n == steps}
			}
		}()
	}
	for range 8 * 2000 {
		if g := <-out; !g.ok {
			t.Error(g.what)
		}
	}
}
