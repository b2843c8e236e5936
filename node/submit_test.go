package node_test

import (
	"strings"
	"testing"

	"coinage/api"
)

func TestExampleFour(t *testing.T) {
	n := started(t, usual())
	one := block(t, zero, base(1, out(50, "\x01")))
	joins(t, n, one)
	has(t, n, left(one.coin(0, 0), out(50, "\x01"), 1))
	n = started(t, usual())
	isBad(t, n, block(t, zero, base(1, out(51, "\x01"))), api.ErrValue)
	endsWith(t, n, zero, 0, 0)
}

func TestExampleFive(t *testing.T) {
	for _, c := range []struct {
		lock       string
		base, paid int
		e          api.Errno
	}{
		{"\x01", 50, 50, api.OK},
		{"\x01", 60, 40, api.OK},
		{"\x01", 61, 40, api.ErrValue},
		{"\x01", 51, 50, api.ErrValue},
		{"\x01", 0, 51, api.ErrValue},
		{"\x01", 100, 0, api.OK},
		{"\x01", 101, 0, api.ErrValue},
		{"\x00", 50, 50, api.ErrScript},
	} {
		n := started(t, usual())
		one := block(t, zero, base(1, out(50, c.lock)))
		joins(t, n, one)
		two := block(t, one.id, base(2, out(c.base, "")), pay(one.coin(0, 0), out(c.paid, "")))
		if c.e != api.OK {
			isBad(t, n, two, c.e)
			continue
		}
		joins(t, n, two)
		has(t, n, left(two.coin(0, 0), out(c.base, ""), 2), left(two.coin(1, 0), out(c.paid, ""), 2))
	}
}

func TestNoBlock(t *testing.T) {
	n := started(t, usual())
	one := block(t, zero, base(1, out(50, open)))
	joins(t, n, one)
	two := block(t, one.id, base(2, out(50, open)), pay(one.coin(0, 0), out(1, "")))
	for i := range two.s {
		refused(t, n, made{s: two.s[:i]}, api.ErrForm)
		refused(t, n, made{s: two.s[i+1:]}, api.ErrForm)
	}
	for _, s := range []string{one.s + "\x00", two.s + one.s, strings.Repeat("\x00", 100000), strings.Repeat("\xff", 40)} {
		refused(t, n, made{s: s}, api.ErrForm)
	}
	joins(t, n, two)
}

func TestKnown(t *testing.T) {
	n := started(t, usual())
	one := block(t, zero, base(1, out(50, open)))
	joins(t, n, one)
	refused(t, n, one, api.ErrKnown)
	two := block(t, one.id, base(2, out(50, open)))
	joins(t, n, two)
	refused(t, n, one, api.ErrKnown)
	refused(t, n, two, api.ErrKnown)
	side := block(t, zero, base(3, out(50, open)))
	answers(t, n, side, 0, 0, api.OK)
	refused(t, n, side, api.ErrKnown)
}

func TestWork(t *testing.T) {
	for least := range 9 {
		c := usual()
		c.Bits = least
		n := started(t, c)
		last, work := zero, 0
		for bits := range 9 {
			if bits > 0 {
				isGone(t, n, tooLittle(t, last, bits), api.ErrWork)
			}
			m := mined(t, last, bits, bits%2 == 0, base(bits, out(50, open)))
			if bits < least {
				isGone(t, n, m, api.ErrWork)
				continue
			}
			joins(t, n, m)
			last, work = m.id, work+1<<bits
			endsWith(t, n, last, bits-least+1, work)
		}
	}
}

// tooLittle: a block whose id shows all of its bits but the first one.
func tooLittle(t *testing.T, parent string, bits int) made {
	t.Helper()
	for nonce := range 65536 {
		m := blockOf(t, api.Block{Parent: parent, Bits: bits, Nonce: nonce, Txs: []api.Tx{base(1, out(1, ""))}})
		if shown(m.id) == bits-1 {
			return m
		}
	}
	t.Fatal("no nonce")
	return made{}
}

func TestParent(t *testing.T) {
	n := started(t, usual())
	one := block(t, zero, base(1, out(50, open)))
	two := block(t, one.id, base(2, out(50, open)))
	isGone(t, n, two, api.ErrParent)
	for _, id := range []string{"abcdefgh", "\x00\x00\x00\x00\x00\x00\x00\x01", "\xff\xff\xff\xff\xff\xff\xff\xff"} {
		isGone(t, n, block(t, id, base(1, out(50, open))), api.ErrParent)
	}
	joins(t, n, one)
	joins(t, n, two)
}

// TestRefusedLater: what was refused for want of a parent is taken when the
// parent is there.
func TestRefusedLater(t *testing.T) {
	n := started(t, usual())
	last := zero
	var l []made
	for i := range 6 {
		m := block(t, last, base(i, out(50, open)))
		l, last = append(l, m), m.id
	}
	for i, m := range l {
		for _, next := range l[i+1:] {
			refused(t, n, next, api.ErrParent)
		}
		joins(t, n, m)
	}
}

func TestFull(t *testing.T) {
	n := started(t, usual())
	bad := block(t, zero, base(1, out(51, open)))
	isBad(t, n, bad, api.ErrValue)
	side := block(t, zero, base(2, out(0, open)))
	last := zero
	for i := range 46 {
		m := block(t, last, base(i+10, out(50, open)))
		joins(t, n, m)
		last = m.id
		if i == 20 {
			answers(t, n, side, 0, 0, api.OK)
		}
	}
	isGone(t, n, block(t, last, base(3, out(50, open))), api.ErrFull)
	isGone(t, n, block(t, last, base(3, out(51, open))), api.ErrFull)
	isGone(t, n, block(t, zero, base(3, out(50, open))), api.ErrFull)
	isGone(t, n, block(t, side.id, base(3, out(50, open))), api.ErrFull)
	endsWith(t, n, last, 46, 46)
}

func TestFullChain(t *testing.T) {
	n := started(t, usual())
	last := zero
	var want []api.Coin
	for i := range 48 {
		m := block(t, last, base(i, out(50, open)))
		joins(t, n, m)
		last = m.id
		want = append(want, left(m.coin(0, 0), out(50, open), i+1))
	}
	isGone(t, n, block(t, last, base(48, out(50, open))), api.ErrFull)
	endsWith(t, n, last, 48, 48)
	has(t, n, want...)
}

// TestOrderOfRefusals: a block of which several of P8's errors hold.
func TestOrderOfRefusals(t *testing.T) {
	c := usual()
	c.Bits = 1
	n := started(t, c)
	one := mined(t, zero, 1, false, base(1, out(50, open)))
	joins(t, n, one)
	bad := mined(t, one.id, 1, false, base(2, out(51, open)))
	refused(t, n, bad, api.ErrValue)
	refused(t, n, bad, api.ErrKnown)
	refused(t, n, block(t, "abcdefgh", base(1, out(51, open))), api.ErrWork)
	refused(t, n, block(t, bad.id, base(1, out(51, open))), api.ErrWork)
	refused(t, n, mined(t, "abcdefgh", 1, false, base(1, out(51, open))), api.ErrParent)
	refused(t, n, mined(t, bad.id, 1, false, base(1, out(51, open))), api.ErrBranch)
	last := one.id
	for i := range 46 {
		m := mined(t, last, 1, false, base(i+10, out(50, open)))
		joins(t, n, m)
		last = m.id
	}
	refused(t, n, made{s: one.s[1:]}, api.ErrForm)
	refused(t, n, one, api.ErrKnown)
	refused(t, n, bad, api.ErrKnown)
	refused(t, n, block(t, last, base(1, out(51, open))), api.ErrWork)
	refused(t, n, mined(t, "abcdefgh", 1, false, base(1, out(51, open))), api.ErrParent)
	refused(t, n, mined(t, bad.id, 1, false, base(1, out(51, open))), api.ErrBranch)
	refused(t, n, mined(t, last, 1, false, base(1, out(51, open))), api.ErrFull)
}
