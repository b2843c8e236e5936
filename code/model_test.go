package code_test

import (
	"encoding/binary"
	"encoding/hex"
	"hash/fnv"
	"slices"
	"strings"
	"testing"

	"coinage/api"
	"coinage/code"
)

const someID = "abcdefgh"
const someHeight = 9

// raw: bytes that are written in hexadecimal.
func raw(t *testing.T, s string) string {
	t.Helper()
	b, err := hex.DecodeString(strings.ReplaceAll(s, " ", ""))
	if err != nil {
		t.Fatal(err)
	}
	return string(b)
}

func eight(n uint64) string {
	return string(binary.BigEndian.AppendUint64(nil, n))
}

func push(n uint64) string {
	return "\x40" + eight(n)
}

func sum(s string) uint64 {
	h := fnv.New64a()
	h.Write([]byte(s))
	return h.Sum64()
}

// answers: Run of key and lock, with someID and someHeight, tells e and steps.
func answers(t *testing.T, key, lock string, e api.Errno, steps int) {
	t.Helper()
	got, n := code.Run(key, lock, someID, someHeight)
	if got != e || n != steps {
		t.Errorf("P6: Run(%x, %x) = %d, %d, want %d, %d", key, lock, got, n, e, steps)
	}
}

// written: the same of a key and a lock in hexadecimal.
func written(t *testing.T, key, lock string, e api.Errno, steps int) {
	t.Helper()
	answers(t, raw(t, key), raw(t, lock), e, steps)
}

// leaves: the key, of so many steps, leaves just these numbers (at most two)
// on the stack, the top first. The lock takes them off one by one, and then one
// more, which must not be there.
func leaves(t *testing.T, key string, steps int, want ...uint64) {
	t.Helper()
	lock := ""
	for _, n := range want {
		lock += push(n) + "\x47\x4c"
	}
	answers(t, key, lock+"\x42", api.ErrStack, steps+3*len(want)+1)
}

// opRow: a byte of code, how many numbers it takes off and how many it puts.
type opRow struct {
	op          byte
	takes, puts int
}

// opRows: every operation but the Else and the End.
func opRows() []opRow {
	return []opRow{
		{0x00, 0, 1}, {0x01, 0, 1}, {0x3f, 0, 1}, {0x40, 0, 1}, {0x41, 1, 2}, {0x42, 1, 0}, {0x43, 2, 2},
		{0x44, 2, 1}, {0x45, 2, 1}, {0x46, 2, 1}, {0x47, 2, 1}, {0x48, 2, 1}, {0x49, 1, 1},
		{0x4a, 1, 1}, {0x4b, 2, 1}, {0x4c, 1, 0}, {0x4d, 0, 1}, {0x50, 1, 0},
	}
}

// owned: of each If of a piece where its Else and its End are (-1: none), and
// whether it is nested wrongly.
type owned struct {
	middle, end int
	wrong       bool
}

// owners finds the Ifs of a piece by one walk with a list of those that are
// open: another way than that of the program.
func owners(s string) map[int]owned {
	all := map[int]owned{}
	var open []int
	for i := 0; i < len(s); i++ {
		last := len(open) - 1
		switch s[i] {
		case 0x40:
			i += 8
		case 0x50:
			open = append(open, i)
			all[i] = owned{-1, -1, true}
		case 0x51:
			if last < 0 {
				continue
			}
			o := all[open[last]]
			if o.middle >= 0 {
				o.end = -2 // whatever comes, it is wrong
			} else {
				o.middle = i
			}
			all[open[last]] = o
		case 0x52:
			if last < 0 {
				continue
			}
			o := all[open[last]]
			o.wrong = o.end == -2
			o.end = i
			all[open[last]] = o
			open = open[:last]
		}
	}
	return all
}

// model runs code by going from place to place, and answers at the first thing
// that goes wrong: to hold Run against.
func model(key, lock, id string, height int) (api.Errno, int) {
	if len(key) > 32 || len(lock) > 32 || len(id) != 8 || height < 0 {
		return api.ErrForm, 0
	}
	var stack []uint64
	steps := 0
	for _, s := range []string{key, lock} {
		ifs := owners(s)
		for at := 0; at < len(s); {
			if steps == 40 {
				return api.ErrSteps, 40
			}
			steps++
			e, next := modelStep(s, at, ifs, &stack, id, height)
			if e != api.OK {
				return e, steps
			}
			at = next
		}
	}
	if len(stack) == 0 || stack[len(stack)-1] == 0 {
		return api.ErrFalse, steps
	}
	return api.OK, steps
}

func modelStep(s string, at int, ifs map[int]owned, stack *[]uint64, id string, height int) (api.Errno, int) {
	op := s[at]
	if op == 0x51 || op == 0x52 {
		return modelJoin(op, at, ifs)
	}
	i := slices.IndexFunc(opRows(), func(r opRow) bool { return r.op == op || op < 0x40 && r.op == 0 })
	if i < 0 || op == 0x40 && len(s)-at < 9 {
		return api.ErrOp, 0
	}
	if op == 0x50 && ifs[at].wrong {
		return api.ErrNest, 0
	}
	row, n := opRows()[i], len(*stack)
	if n < row.takes || n-row.takes+row.puts > 16 {
		return api.ErrStack, 0
	}
	taken := slices.Clone((*stack)[n-row.takes:])
	if op == 0x4c && taken[0] == 0 {
		return api.ErrVerify, 0
	}
	*stack = append((*stack)[:n-row.takes], modelPuts(s, at, taken, id, height)...)
	if op == 0x40 {
		return api.OK, at + 9
	}
	if op != 0x50 || taken[0] != 0 {
		return api.OK, at + 1
	}
	if ifs[at].middle >= 0 {
		return api.OK, ifs[at].middle + 1
	}
	return api.OK, ifs[at].end + 1
}

// modelJoin: an Else or End that is come to.
func modelJoin(op byte, at int, ifs map[int]owned) (api.Errno, int) {
	for _, o := range ifs {
		if op == 0x51 && o.middle == at {
			return api.OK, o.end + 1
		}
		if op == 0x52 && o.end == at {
			return api.OK, at + 1
		}
	}
	return api.ErrNest, 0
}

// modelPuts: what a step puts on the stack for what it took, the lowest first.
func modelPuts(s string, at int, taken []uint64, id string, height int) []uint64 {
	var x, y uint64
	if len(taken) > 0 {
		x, y = taken[0], taken[len(taken)-1]
	}
	is := map[bool]uint64{true: 1}
	switch s[at] {
	case 0x40:
		return []uint64{binary.BigEndian.Uint64([]byte(s[at+1:]))}
	case 0x41:
		return []uint64{x, x}
	case 0x43:
		return []uint64{y, x}
	case 0x44:
		return []uint64{x + y}
	case 0x45:
		return []uint64{x - y}
	case 0x46:
		return []uint64{x * y}
	case 0x47:
		return []uint64{is[x == y]}
	case 0x48:
		return []uint64{is[x < y]}
	case 0x49:
		return []uint64{is[x == 0]}
	case 0x4a:
		return []uint64{sum(eight(x))}
	case 0x4b:
		return []uint64{is[x == sum(eight(y)+id)]}
	case 0x42, 0x4c, 0x50:
		return nil
	case 0x4d:
		return []uint64{uint64(height)}
	}
	return []uint64{uint64(s[at])}
}
