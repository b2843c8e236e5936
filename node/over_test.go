package node_test

import (
	"testing"

	"coinage/api"
)

func TestExampleSix(t *testing.T) {
	n := started(t, usual())
	a := block(t, zero, base(1, out(50, open)))
	b := block(t, zero, base(2, out(40, open)))
	joins(t, n, a)
	answers(t, n, b, 0, 0, api.OK)
	endsWith(t, n, a.id, 1, 1)
	has(t, n, left(a.coin(0, 0), out(50, open), 1))
	c := block(t, b.id, base(3, out(30, open)))
	answers(t, n, c, 1, 2, api.OK)
	endsWith(t, n, c.id, 2, 2)
	has(t, n, left(b.coin(0, 0), out(40, open), 1), left(c.coin(0, 0), out(30, open), 2))

	n = started(t, usual())
	b = block(t, zero, base(2, out(51, open)))
	joins(t, n, a)
	answers(t, n, b, 0, 0, api.OK)
	before := seen(n)
	c = block(t, b.id, base(3, out(30, open)))
	refused(t, n, c, api.ErrBranch)
	if after := seen(n); !after.is(before) {
		t.Errorf("P9: the chain was %+v and is %+v", before, after)
	}
	for _, m := range []made{b, c} {
		refused(t, n, m, api.ErrKnown)
		refused(t, n, block(t, m.id, base(4, out(0, ""))), api.ErrBranch)
	}
	joins(t, n, block(t, a.id, base(5, out(50, open))))
}

// TestOverAndBack: the node goes to and fro between two branches; coins that
// were spent on one are there on the other, with the height that they had.
func TestOverAndBack(t *testing.T) {
	n := started(t, usual())
	root := block(t, zero, base(1, out(20, open), out(30, open)))
	joins(t, n, root)
	p, q := root.coin(0, 0), root.coin(0, 1)
	a := block(t, root.id, base(2, out(50, open)), pay(p, out(20, open)))
	b := block(t, root.id, base(3, out(60, open)), pay(q, out(20, five)))
	joins(t, n, a)
	answers(t, n, b, 0, 0, api.OK)
	b2 := block(t, b.id, base(4, out(50, open)), pay(p, out(20, open)), pay(b.coin(0, 0), out(60, open)))
	answers(t, n, b2, 1, 2, api.OK)
	onB := []api.Coin{
		left(b.coin(1, 0), out(20, five), 2),
		left(b2.coin(0, 0), out(50, open), 3),
		left(b2.coin(1, 0), out(20, open), 3),
		left(b2.coin(2, 0), out(60, open), 3),
	}
	has(t, n, onB...)
	a2 := block(t, a.id, base(5, out(0, open)), pay(a.coin(1, 0), out(20, open)))
	a3 := block(t, a2.id, base(6, out(50, open)))
	answers(t, n, a2, 0, 0, api.OK)
	has(t, n, onB...)
	answers(t, n, a3, 2, 3, api.OK)
	endsWith(t, n, a3.id, 4, 4)
	onA := []api.Coin{
		left(q, out(30, open), 1),
		left(a.coin(0, 0), out(50, open), 2),
		left(a2.coin(0, 0), out(0, open), 3),
		left(a2.coin(1, 0), out(20, open), 3),
		left(a3.coin(0, 0), out(50, open), 4),
	}
	has(t, n, onA...)
	b3 := block(t, b2.id, base(7, out(1, open)))
	answers(t, n, b3, 0, 0, api.OK)
	isBad(t, n, block(t, b3.id, base(8, out(51, open))), api.ErrValue)
	has(t, n, onA...)
	b4 := block(t, b3.id, base(8, out(2, open)))
	answers(t, n, b4, 3, 4, api.OK)
	has(t, n, append(onB, left(b3.coin(0, 0), out(1, open), 4), left(b4.coin(0, 0), out(2, open), 5))...)
	for h, id := range []string{zero, root.id, b.id, b2.id, b3.id, b4.id} {
		if x, e := n.At(h); x != id || e != api.OK {
			t.Errorf("P12: At(%d) = %x, %d, want %x", h, x, e, id)
		}
	}
}

// TestShorterButHeavier: work counts, not length.
func TestShorterButHeavier(t *testing.T) {
	n := started(t, usual())
	last := zero
	for i := range 7 {
		m := block(t, last, base(i, out(50, open)))
		joins(t, n, m)
		last = m.id
	}
	two := mined(t, zero, 2, true, base(10, out(50, open)))
	answers(t, n, two, 0, 0, api.OK)
	equal := mined(t, two.id, 1, true, base(11, out(50, open)))
	answers(t, n, equal, 0, 0, api.OK)
	same := block(t, equal.id, base(12, out(50, open)))
	answers(t, n, same, 0, 0, api.OK) // as heavy: the node stays
	endsWith(t, n, last, 7, 7)
	heavy := mined(t, zero, 3, true, base(13, out(50, open)))
	answers(t, n, heavy, 7, 1, api.OK)
	endsWith(t, n, heavy.id, 1, 8)
	has(t, n, left(heavy.coin(0, 0), out(50, open), 1))
	for h := 2; h < 9; h++ {
		if id, e := n.At(h); id != "" || e != api.ErrHeight {
			t.Errorf("P12: At(%d) = %x, %d", h, id, e)
		}
	}
	more := block(t, same.id, base(14, out(50, open)))
	answers(t, n, more, 0, 0, api.OK)
	answers(t, n, block(t, more.id, base(15, out(50, open))), 1, 5, api.OK)
}

// TestBadWithin: a block within the branch is bad, and so are all that are kept
// behind it, on whatever branch, but none ahead of it.
func TestBadWithin(t *testing.T) {
	n := started(t, usual())
	last := zero
	for i := range 4 {
		m := block(t, last, base(i, out(50, open)))
		joins(t, n, m)
		last = m.id
	}
	good := block(t, zero, base(10, out(50, open)))
	bad := block(t, good.id, base(11, out(51, open)))
	behind := block(t, bad.id, base(12, out(50, open)))
	aside := block(t, bad.id, base(13, out(50, open)))
	deep := block(t, aside.id, base(14, out(50, open)))
	beside := block(t, good.id, base(15, out(50, open)))
	for _, m := range []made{good, bad, beside, behind, aside, deep} {
		answers(t, n, m, 0, 0, api.OK)
	}
	over := block(t, deep.id, base(16, out(50, open)))
	refused(t, n, over, api.ErrBranch)
	endsWith(t, n, last, 4, 4)
	for _, m := range []made{bad, behind, aside, deep, over} {
		refused(t, n, m, api.ErrKnown)
		refused(t, n, block(t, m.id, base(20, out(50, open))), api.ErrBranch)
	}
	next := block(t, beside.id, base(21, out(50, open)))
	then := block(t, next.id, base(22, out(50, open)))
	answers(t, n, next, 0, 0, api.OK)
	answers(t, n, then, 0, 0, api.OK)
	end := block(t, then.id, base(23, out(50, open)))
	answers(t, n, end, 4, 5, api.OK)
	endsWith(t, n, end.id, 5, 5)
}

// TestLastIsBad: of a branch that joins, only the block that was handed in is
// bad: its own error is told, and the others stay good.
func TestLastIsBad(t *testing.T) {
	for _, c := range []struct {
		e   api.Errno
		txs func(root, side made) []api.Tx
	}{
		{api.ErrValue, func(root, side made) []api.Tx { return []api.Tx{base(5, out(51, ""))} }},
		{api.ErrInput, func(root, side made) []api.Tx {
			return []api.Tx{base(5, out(0, "")), pay(root.coin(0, 0), out(0, "")), pay(root.coin(0, 1), out(0, ""))}
		}},
		{api.ErrTwice, func(root, side made) []api.Tx { return []api.Tx{base(3, out(0, open), out(0, never))} }},
		{api.ErrScript, func(root, side made) []api.Tx {
			return []api.Tx{base(5, out(0, "")), pay(root.coin(0, 0), out(0, "")), pay(side.coin(0, 1), out(0, ""))}
		}},
	} {
		n := started(t, usual())
		root := block(t, zero, base(1, out(20, open), out(30, open)))
		joins(t, n, root)
		a := block(t, root.id, base(2, out(50, open)), pay(root.coin(0, 0), out(20, open)))
		joins(t, n, a)
		side := block(t, root.id, base(3, out(0, open), out(0, never)), pay(root.coin(0, 1), out(30, open)))
		answers(t, n, side, 0, 0, api.OK)
		isBad(t, n, block(t, side.id, c.txs(root, side)...), c.e)
		has(t, n,
			left(root.coin(0, 1), out(30, open), 1),
			left(a.coin(0, 0), out(50, open), 2),
			left(a.coin(1, 0), out(20, open), 2))
		answers(t, n, block(t, side.id, base(6, out(50, ""))), 1, 2, api.OK)
	}
}

// TestUntried: a block aside is not judged till the node goes over to it.
func TestUntried(t *testing.T) {
	n := started(t, usual())
	one := block(t, zero, base(1, out(50, open)))
	joins(t, n, one)
	bad := block(t, zero, base(2, out(51, open)))
	answers(t, n, bad, 0, 0, api.OK)
	two := block(t, one.id, base(3, out(50, open)))
	joins(t, n, two)
	behind := block(t, bad.id, base(4, out(51, open)))
	answers(t, n, behind, 0, 0, api.OK)
	refused(t, n, block(t, behind.id, base(5, out(51, open))), api.ErrBranch)
	endsWith(t, n, two.id, 2, 2)
}
