package code_test

import (
	"strings"
	"testing"

	"coinage/api"
)

func TestIf(t *testing.T) {
	for _, c := range []struct {
		key, lock string
		e         api.Errno
		steps     int
	}{
		{"01", "50 05 52", api.OK, 4},
		{"00", "50 05 52", api.ErrFalse, 2},
		{"0700", "50 05 52", api.OK, 3},
		{"01", "50 05 51 00 52", api.OK, 4},
		{"00", "50 05 51 00 52", api.ErrFalse, 4},
		{"00", "50 00 51 05 52", api.OK, 4},
		{"3f", "50 05 51 00 52", api.OK, 4},
		{"40 0000000100000000", "50 05 51 00 52", api.OK, 4},
		{"40 8000000000000000", "50 05 51 00 52", api.OK, 4},
		{"0701", "50 52", api.OK, 4},
		{"0700", "50 52", api.OK, 3},
		{"0701", "50 51 52", api.OK, 4},
		{"0700", "50 51 52", api.OK, 4},
		{"00", "50 ff 51 05 52", api.OK, 4},
		{"01", "50 05 51 ff 52", api.OK, 4},
		{"01", "50 ff 51 05 52", api.ErrOp, 3},
		{"00", "50 05 51 ff 52", api.ErrOp, 3},
		{"01", "50 42 51 05 52", api.ErrStack, 3},
		{"00", "50 05 51 42 52", api.ErrStack, 3},
		{"01 50 05 52", "", api.OK, 4},
		{"01 50 05 52", "42", api.ErrFalse, 5},
		{"01 50 05 52", "01 50 06 52", api.OK, 8},
		{"", "01 50 52 01 50 52 07", api.OK, 7},
	} {
		written(t, c.key, c.lock, c.e, c.steps)
	}
}

func TestIfTakesOne(t *testing.T) {
	leaves(t, "\x08\x09\x01\x50\x52", 5, 9, 8)
	leaves(t, "\x08\x09\x00\x50\x52", 4, 9, 8)
	leaves(t, "\x08\x00\x50\x06\x51\x07\x52", 5, 7, 8)
	leaves(t, "\x08\x01\x50\x06\x51\x07\x52", 5, 6, 8)
}

func TestNested(t *testing.T) {
	for _, c := range []struct {
		lock  string
		e     api.Errno
		steps int
	}{
		{"01 01 50 50 07 52 51 00 52", api.OK, 7},
		{"00 01 50 50 07 52 51 00 52", api.ErrFalse, 5},
		{"01 00 50 50 07 52 51 00 52", api.ErrFalse, 5},
		{"01 50 01 50 01 50 07 52 52 52", api.OK, 10},
		{"01 50 01 50 00 50 07 52 52 52", api.ErrFalse, 8},
		{"00 50 00 50 07 51 08 52 51 09 52", api.OK, 4},
		{"01 50 00 50 07 51 08 52 51 09 52", api.OK, 7},
		{"01 50 01 50 07 51 08 52 51 09 52", api.OK, 7},
		{"00 50 07 51 01 50 08 51 09 52 52", api.OK, 7},
		{"00 50 07 51 00 50 08 51 09 52 52", api.OK, 7},
		{"01 50 50 51 52 51 52", api.ErrStack, 3},
		{"01 50 01 50 ff 52 52", api.ErrOp, 5},
		{"01 50 01 50 01 50 42 52 52 52", api.ErrStack, 7},
		{"01 50 01 50 00 4c 52 52", api.ErrVerify, 6},
	} {
		written(t, "", c.lock, c.e, c.steps)
	}
	deep := strings.Repeat("\x50", 10) + "\x07" + strings.Repeat("\x52", 10)
	answers(t, strings.Repeat("\x01", 10), deep, api.OK, 31)
	answers(t, strings.Repeat("\x01", 9)+"\x00", deep, api.OK, 11)
	answers(t, "\x00"+strings.Repeat("\x01", 9), deep, api.ErrFalse, 29)
}

func TestWrongNests(t *testing.T) {
	for _, c := range []struct {
		key, lock string
		e         api.Errno
		steps     int
	}{
		{"", "01 50", api.ErrNest, 2},
		{"", "00 50", api.ErrNest, 2},
		{"", "01 50 05", api.ErrNest, 2},
		{"", "00 50 51", api.ErrNest, 2},
		{"", "00 50 51 05", api.ErrNest, 2},
		{"", "01 51", api.ErrNest, 2},
		{"", "01 52", api.ErrNest, 2},
		{"", "51", api.ErrNest, 1},
		{"", "52", api.ErrNest, 1},
		{"", "52 01 50", api.ErrNest, 1},
		{"", "51 01 52", api.ErrNest, 1},
		{"", "01 50 52 52", api.ErrNest, 4},
		{"", "01 50 52 51", api.ErrNest, 4},
		{"", "00 50 52 51 01 52", api.ErrNest, 3},
		{"", "00 50 51 52 51 01 52", api.ErrNest, 4},
		{"", "01 50 51 52 52", api.ErrNest, 4},
		{"", "00 50 51 51 52", api.ErrNest, 2},
		{"", "01 50 51 51 52", api.ErrNest, 2},
		{"", "01 50 51 51 51 52", api.ErrNest, 2},
		{"", "01 50 05 51 50 51 51 52 51 52", api.ErrNest, 2},
		{"", "01 50 50 52", api.ErrNest, 2},
		{"", "01 50 50 51 52", api.ErrNest, 2},
		{"", "01 50 50 51 52 51", api.ErrNest, 2},
		{"", "01 50 01 50 52", api.ErrNest, 2},
		{"01 50", "52 01", api.ErrNest, 2},
		{"00 50", "52 01", api.ErrNest, 2},
		{"01 50 52", "52", api.ErrNest, 4},
		{"00 50 51 01", "52", api.ErrNest, 2},
		{"01 50 05 51", "06 52", api.ErrNest, 2},
	} {
		written(t, c.key, c.lock, c.e, c.steps)
	}
}

// TestWithinEntered: what is wrong within an If that is entered matters only
// when it is come to.
func TestWithinEntered(t *testing.T) {
	for _, c := range []struct {
		lock  string
		e     api.Errno
		steps int
	}{
		{"07 00 50 50 51 51 52 52", api.OK, 3},
		{"07 01 50 50 51 51 52 52", api.ErrNest, 4},
		{"07 00 50 50 51 51 51 52 51 52", api.OK, 4},
		{"07 01 50 51 50 51 51 52 52", api.OK, 4},
		{"07 00 50 51 50 51 51 52 52", api.ErrNest, 4},
		{"07 00 50 50 50 51 51 52 51 52 52", api.OK, 3},
		{"07 00 50 ff 53 4e 52", api.OK, 3},
	} {
		written(t, "", c.lock, c.e, c.steps)
	}
}

// TestBytesBehindPush: an If, Else or End among them is none.
func TestBytesBehindPush(t *testing.T) {
	for _, c := range []struct {
		lock  string
		e     api.Errno
		steps int
	}{
		{"00 50 40 7a7a7a7a7a7a5252 52 01", api.OK, 3},
		{"01 50 40 5252525252525252 52", api.OK, 4},
		{"00 50 40 5151515151515151 51 07 52", api.OK, 4},
		{"01 50 40 5050505050505050 52", api.OK, 4},
		{"07 00 50 40 5050505050505050 52", api.OK, 3},
		{"01 50 40 5252525252525252", api.ErrNest, 2},
		{"07 00 50 40 52", api.ErrNest, 3},
		{"07 00 50 40 52525252525252", api.ErrNest, 3},
		{"07 01 50 40 52525252525252", api.ErrNest, 3},
		{"07 00 50 40 0101010101010152 52", api.OK, 3},
		{"07 00 50 52 40 52", api.ErrOp, 4},
		{"07 01 50 52 40 52", api.ErrOp, 5},
		{"07 00 50 51 40 5252525252525252 52", api.OK, 5},
		{"07 00 50 50 40 5252525252525252 52 52", api.OK, 3},
		{"07 00 50 50 40 5252525252525252 52", api.ErrNest, 3},
		{"40 5050505050505050 52", api.ErrNest, 2},
		{"40 5252525252525252", api.OK, 1},
		{"40 5151515151515151 50 40 4040404040404040 52", api.OK, 4},
	} {
		written(t, "", c.lock, c.e, c.steps)
	}
}
