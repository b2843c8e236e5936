package node_test

import (
	"slices"
	"testing"

	"coinage/api"
	"coinage/node"
)

// rich: a node with two blocks. The second one has the coins of its second
// transaction (10 open, 10 open, 10 five, 10 never), that of its base (0), and
// spends what the first one made.
func rich(t *testing.T) (*node.Node, made) {
	t.Helper()
	n := started(t, usual())
	one := block(t, zero, base(1, out(50, open)))
	joins(t, n, one)
	two := block(t, one.id, base(2, out(0, open)), pay(one.coin(0, 0), out(10, open), out(10, open), out(10, five), out(10, never)))
	joins(t, n, two)
	return n, two
}

func TestInput(t *testing.T) {
	n, two := rich(t)
	a, b := two.coin(1, 0), two.coin(1, 1)
	one, _ := n.At(1)
	gone := api.Point{Tx: block(t, zero, base(1, out(50, open))).txs[0]}
	next := pay(a, out(10, open))
	made3 := block(t, two.id, base(3, out(0, "")), next)
	for _, l := range [][]api.Tx{
		{pay(api.Point{Tx: "abcdefgh"}, out(0, ""))},
		{pay(api.Point{Tx: one}, out(0, ""))},
		{pay(api.Point{Tx: two.id}, out(0, ""))},
		{pay(gone, out(0, ""))},
		{pay(api.Point{Tx: a.Tx, Index: 4}, out(0, ""))},
		{pay(api.Point{Tx: a.Tx, Index: 255}, out(0, ""))},
		{pay(api.Point{Tx: two.txs[0], Index: 1}, out(0, ""))},
		{move([]api.In{in(a, ""), in(a, "")}, out(0, ""))},
		{move([]api.In{in(a, ""), in(b, ""), in(a, "")}, out(0, ""))},
		{move([]api.In{in(a, ""), in(b, ""), in(gone, "")}, out(0, ""))},
		{next, pay(a, out(0, ""))},
		{next, pay(b, out(0, "")), move([]api.In{in(b, "")}, out(1, ""))},
		{pay(made3.coin(1, 0), out(0, "")), next},
		{next, pay(made3.coin(1, 1), out(0, ""))},
		{pay(made3.coin(0, 0), out(0, ""))},
		{next, pay(made3.coin(0, 0), out(0, ""))},
	} {
		isBad(t, n, block(t, two.id, append([]api.Tx{base(3, out(0, ""))}, l...)...), api.ErrInput)
		// The base is worth too much as well, but it comes last.
		isBad(t, n, block(t, two.id, append([]api.Tx{base(3, out(99, ""))}, l...)...), api.ErrInput)
	}
}

// TestSpendAhead: a transaction may spend what those ahead of it made.
func TestSpendAhead(t *testing.T) {
	n, two := rich(t)
	x := pay(two.coin(1, 0), out(4, open), out(5, five))
	b := block(t, two.id, base(3, out(0, "")), x)
	y := move([]api.In{in(b.coin(1, 1), "\x05"), in(b.coin(1, 0), "")}, out(8, open))
	b = block(t, two.id, base(3, out(0, "")), x, y)
	z := pay(b.coin(2, 0), out(7, open))
	isBad(t, n, block(t, two.id, base(3, out(54, "")), x, y, z), api.ErrValue)
	b = block(t, two.id, base(3, out(53, "")), x, y, z)
	joins(t, n, b)
	has(t, n,
		left(two.coin(0, 0), out(0, open), 2),
		left(two.coin(1, 1), out(10, open), 2),
		left(two.coin(1, 2), out(10, five), 2),
		left(two.coin(1, 3), out(10, never), 2),
		left(b.coin(0, 0), out(53, ""), 3),
		left(b.coin(3, 0), out(7, open), 3))
}

func TestValue(t *testing.T) {
	n, two := rich(t)
	a, b, c := two.coin(1, 0), two.coin(1, 1), two.coin(1, 2)
	most := 4294967295
	for _, l := range [][]api.Tx{
		{base(3, out(51, ""))},
		{base(3, out(most, ""))},
		{base(3, slices.Repeat([]api.Out{out(most, "")}, 8)...)},
		{base(3, out(20, ""), out(20, ""), out(11, ""))},
		{base(3, out(0, "")), pay(a, out(11, ""))},
		{base(3, out(0, "")), pay(a, out(5, ""), out(6, ""))},
		{base(3, out(0, "")), pay(a, out(most, ""))},
		{base(3, out(0, "")), pay(a, slices.Repeat([]api.Out{out(most, "")}, 8)...)},
		{base(3, out(0, "")), pay(a, out(0, "")), pay(b, out(11, ""))},
		{base(3, out(0, "")), move([]api.In{in(a, ""), in(b, "")}, out(21, ""))},
		{base(3, out(61, "")), pay(a, out(0, ""))},
		{base(3, out(63, "")), pay(a, out(3, "")), pay(b, out(5, ""))},
		{base(3, out(51, "")), pay(a, out(10, ""))},
		{base(3, out(99, "")), pay(c, out(10, ""))},
		{base(3, out(0, "")), pay(c, out(11, ""))},
	} {
		isBad(t, n, block(t, two.id, l...), api.ErrValue)
	}
	three := block(t, two.id, base(3, out(30, ""), out(32, "")), pay(a, out(3, "")), pay(b, out(1, ""), out(4, "")))
	joins(t, n, three)
}

// TestGreatValues: more than 32 bits go through a transaction at once.
func TestGreatValues(t *testing.T) {
	c := usual()
	c.Subsidy = 1000000
	n := started(t, c)
	one := block(t, zero, base(1, slices.Repeat([]api.Out{out(125000, open)}, 8)...))
	joins(t, n, one)
	var ins []api.In
	for i := range 8 {
		ins = append(ins, in(one.coin(0, i), ""))
	}
	isBad(t, n, block(t, one.id, base(2, out(0, "")), move(ins, out(1000001, ""))), api.ErrValue)
	isBad(t, n, block(t, one.id, base(2, out(0, "")), move(ins, out(4294967295, ""), out(1000001, ""))), api.ErrValue)
	isBad(t, n, block(t, one.id, base(2, out(2000001, "")), move(ins, out(0, ""))), api.ErrValue)
	two := block(t, one.id, base(2, out(2000000, "")), move(ins, out(0, "")))
	joins(t, n, two)
	has(t, n, left(two.coin(0, 0), out(2000000, ""), 2), left(two.coin(1, 0), out(0, ""), 2))
}

func TestNothingAnew(t *testing.T) {
	c := usual()
	c.Subsidy = 0
	n := started(t, c)
	isBad(t, n, block(t, zero, base(1, out(1, open))), api.ErrValue)
	one := block(t, zero, base(1, out(0, open), out(0, open)))
	joins(t, n, one)
	isBad(t, n, block(t, one.id, base(2, out(1, "")), pay(one.coin(0, 0), out(0, ""))), api.ErrValue)
	isBad(t, n, block(t, one.id, base(2, out(0, "")), pay(one.coin(0, 0), out(1, ""))), api.ErrValue)
	joins(t, n, block(t, one.id, base(2, out(0, "")), pay(one.coin(0, 1), out(0, ""))))
}

// TestTwice: a base may come again when all its coins are gone, not before.
func TestTwice(t *testing.T) {
	n := started(t, usual())
	again := base(1, out(20, open), out(30, open))
	one := block(t, zero, again)
	joins(t, n, one)
	isBad(t, n, block(t, one.id, again), api.ErrTwice)
	isBad(t, n, block(t, one.id, again, pay(one.coin(0, 0), out(1, ""))), api.ErrTwice)
	isBad(t, n, block(t, one.id, again, pay(one.coin(0, 1), out(1, ""))), api.ErrTwice)
	spend := move([]api.In{in(one.coin(0, 0), ""), in(one.coin(0, 1), "")}, out(2, ""))
	two := block(t, one.id, again, spend)
	joins(t, n, two)
	has(t, n,
		left(one.coin(0, 0), out(20, open), 2),
		left(one.coin(0, 1), out(30, open), 2),
		left(two.coin(1, 0), out(2, ""), 2))
	// The same spending once more: its own coins are there.
	isBad(t, n, block(t, two.id, base(3, out(0, "")), spend), api.ErrTwice)
	three := block(t, two.id, base(3, out(0, "")), pay(one.coin(0, 0), out(20, open)))
	joins(t, n, three)
	isBad(t, n, block(t, three.id, again), api.ErrTwice)
	four := block(t, three.id, base(4, out(0, "")), pay(one.coin(0, 1), out(30, open)))
	joins(t, n, four)
	joins(t, n, block(t, four.id, again))
}

// TestTwiceEachIndex: one coin of the id is enough, whichever it is.
func TestTwiceEachIndex(t *testing.T) {
	n := started(t, usual())
	again := base(1, slices.Repeat([]api.Out{out(6, open)}, 8)...)
	one := block(t, zero, again)
	joins(t, n, one)
	all := make([]api.In, 8)
	for i := range all {
		all[i] = in(one.coin(0, i), "")
	}
	for i := range all {
		most := slices.Delete(slices.Clone(all), i, i+1)
		isBad(t, n, block(t, one.id, again, move(most, out(0, ""))), api.ErrTwice)
	}
	joins(t, n, block(t, one.id, again, move(all, out(0, ""))))
}

// TestOrderOfErrors: transactions in their order, the base behind them, the
// keys last.
func TestOrderOfErrors(t *testing.T) {
	n := started(t, usual())
	again := base(1, out(0, open))
	one := block(t, zero, again)
	joins(t, n, one)
	two := block(t, one.id, base(2, out(0, open)), pay(one.coin(0, 0), out(0, open), out(0, never), out(0, open)))
	joins(t, n, two)
	three := block(t, two.id, again)
	joins(t, n, three)
	a, shut := two.coin(1, 0), two.coin(1, 1)
	none := api.Point{Tx: "abcdefgh"}
	repeat := pay(one.coin(0, 0), out(0, open), out(0, never), out(0, open)) // as in block two: ErrTwice
	for _, c := range []struct {
		txs []api.Tx
		e   api.Errno
	}{
		{[]api.Tx{again, pay(a, out(1, "")), pay(none, out(0, ""))}, api.ErrValue},
		{[]api.Tx{again, pay(none, out(0, "")), pay(a, out(1, ""))}, api.ErrInput},
		{[]api.Tx{again, pay(none, out(1, ""))}, api.ErrInput},
		{[]api.Tx{again, move([]api.In{in(a, ""), in(none, "")}, out(1, ""))}, api.ErrInput},
		{[]api.Tx{base(9, out(51, "")), repeat, pay(none, out(1, ""))}, api.ErrTwice},
		{[]api.Tx{base(9, out(51, "")), repeat, pay(a, out(1, ""))}, api.ErrTwice},
		{[]api.Tx{base(9, out(51, "")), pay(a, out(1, "")), repeat}, api.ErrValue},
		{[]api.Tx{base(9, out(51, "")), pay(none, out(1, "")), repeat}, api.ErrInput},
		{[]api.Tx{again}, api.ErrTwice},
		{[]api.Tx{again, pay(shut, out(0, ""))}, api.ErrTwice},
		{[]api.Tx{base(9, out(51, "")), pay(shut, out(0, ""))}, api.ErrValue},
		{[]api.Tx{base(9, out(50, "")), pay(shut, out(0, ""))}, api.ErrScript},
		{[]api.Tx{base(9, out(50, "")), pay(shut, out(0, "")), pay(none, out(0, ""))}, api.ErrInput},
		{[]api.Tx{base(9, out(50, "")), pay(shut, out(1, "")), pay(none, out(0, ""))}, api.ErrValue},
	} {
		isBad(t, n, block(t, three.id, c.txs...), c.e)
	}
	joins(t, n, block(t, three.id, base(9, out(50, "")), pay(a, out(0, "")), pay(two.coin(1, 2), out(0, ""))))
}

// TestValueAheadOfTwice: a base that is worth too much and has coins there.
func TestValueAheadOfTwice(t *testing.T) {
	n := started(t, usual())
	one := block(t, zero, base(1, out(50, open)))
	joins(t, n, one)
	rich := base(7, out(100, open))
	two := block(t, one.id, rich, pay(one.coin(0, 0), out(0, open)))
	joins(t, n, two)
	isBad(t, n, block(t, two.id, rich), api.ErrValue)
	isBad(t, n, block(t, two.id, rich, pay(two.coin(1, 0), out(0, ""))), api.ErrValue)
}
