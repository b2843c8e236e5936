package node_test

import (
	"encoding/hex"
	"testing"

	"coinage/api"
)

// Blocks and transactions that have an id in common. The bytes of their locks
// were searched for, so that H of the whole is the number that it is to be. The
// locks of the transactions are 1 0 If .. End: the empty key opens them.
const (
	sameID    = "same id!"
	zeroLock  = "c7dd01e4887534a20f0b0d04010f00040407077d01007f000202000500050400"
	twinLock  = "c7dd01e4887534a20f0b0d04050d0300011d0301030f0202013f0301040d0c02"
	base2Lock = "0100502295dcd1c710421e0204010b030506000600010d03030b0c051a020552"
	base1Lock = "01005082c6777caa65cd350c02000102003f0302000001020f0e1c0e07011c52"
	own1Lock  = "01005082c6777caa65cd350d0d01000305030002000004017e0105050c0a0552"
	own2Lock  = "010050188007e8d967729f01043c050406050403021c030b010007021e010752"
	pay1Lock  = "0100502295dcd1c710421e0101010f0d030104040f0f040f0100021d3d010052"
	pay2Lock  = "0100502295dcd1c710421e0205050105027d0201041e031a070a03033f1d0352"
)

func searched(t *testing.T, value int, lock string) api.Out {
	t.Helper()
	b, err := hex.DecodeString(lock)
	if err != nil {
		t.Fatal(err)
	}
	return out(value, string(b))
}

// twins: transactions of the id sameID: two bases, one of two Outs and one of
// one; two that spend coins of this very id; two that spend the coins of
// source.
func twins(t *testing.T) (base2, base1, own1, own2, pay1, pay2, source api.Tx) {
	t.Helper()
	first, second := api.Point{Tx: sameID}, api.Point{Tx: sameID, Index: 1}
	base2 = base(1, out(1, open), searched(t, 1, base2Lock))
	base1 = base(2, searched(t, 1, base1Lock))
	own1 = api.Tx{Tag: 3, Ins: []api.In{in(first, "")}, Outs: []api.Out{searched(t, 1, own1Lock)}}
	own2 = api.Tx{Tag: 4, Ins: []api.In{in(first, ""), in(second, "")}, Outs: []api.Out{searched(t, 1, own2Lock)}}
	source = base(6, out(10, open), out(10, open))
	b := block(t, zero, source)
	pay1 = api.Tx{Tag: 5, Ins: []api.In{in(b.coin(0, 0), "")}, Outs: []api.Out{searched(t, 1, pay1Lock)}}
	pay2 = api.Tx{Tag: 5, Ins: []api.In{in(b.coin(0, 1), "")}, Outs: []api.Out{searched(t, 1, pay2Lock)}}
	b = block(t, zero, base2, own1, own2, pay1, pay2)
	c := block(t, zero, base1)
	for _, id := range append(b.txs, c.txs...) {
		if id != sameID {
			t.Fatalf("P5: the ids are %q, %q", b.txs, c.txs)
		}
	}
	return
}

func TestFirstBlockIsKnown(t *testing.T) {
	for bits := range 9 {
		c := usual()
		c.Bits = bits
		n := started(t, c)
		m := block(t, zero, base(1, searched(t, 50, zeroLock)))
		if m.id != zero {
			t.Fatalf("P5: the id is %x", m.id)
		}
		refused(t, n, m, api.ErrKnown)
	}
}

func TestTwinBlock(t *testing.T) {
	n := started(t, usual())
	one := block(t, zero, base(1, out(50, open)))
	twin := blockOf(t, api.Block{Parent: zero, Nonce: 7, Txs: []api.Tx{base(1, searched(t, 50, twinLock))}})
	if one.id != twin.id || one.s == twin.s {
		t.Fatalf("P5: the ids are %x, %x", one.id, twin.id)
	}
	joins(t, n, one)
	refused(t, n, twin, api.ErrKnown)
	has(t, n, left(one.coin(0, 0), out(50, open), 1))
	n = started(t, usual())
	joins(t, n, twin)
	refused(t, n, one, api.ErrKnown)
}

// TestTwiceOtherIndex: the coin of the id that is there has an index that the
// transaction itself does not make.
func TestTwiceOtherIndex(t *testing.T) {
	base2, base1, _, _, _, _, _ := twins(t)
	n := started(t, usual())
	one := block(t, zero, base2)
	joins(t, n, one)
	two := block(t, one.id, base(7, out(0, "")), pay(one.coin(0, 0), out(1, "")))
	joins(t, n, two)
	isBad(t, n, block(t, two.id, base1), api.ErrTwice)
	three := block(t, two.id, base1, pay(one.coin(0, 1), out(1, "")))
	joins(t, n, three)
	if l, _ := n.Look([]api.Point{one.coin(0, 0), one.coin(0, 1)}); l[0] != left(one.coin(0, 0), base1.Outs[0], 3) || l[1] != (api.Coin{}) {
		t.Errorf("P13: Look = %+v", l)
	}
}

// TestTwiceOwnGone: coins of the transaction's own id that it spends itself are
// gone when it is asked for others.
func TestTwiceOwnGone(t *testing.T) {
	base2, base1, own1, own2, _, _, _ := twins(t)
	n := started(t, usual())
	one := block(t, zero, base2)
	joins(t, n, one)
	isBad(t, n, block(t, one.id, base(7, out(0, "")), own1), api.ErrTwice)
	two := block(t, one.id, base(7, out(0, "")), own2)
	joins(t, n, two)
	three := block(t, two.id, base(8, out(0, "")), own1)
	joins(t, n, three)
	if l, _ := n.Look([]api.Point{one.coin(0, 0)}); l[0] != left(one.coin(0, 0), own1.Outs[0], 3) {
		t.Errorf("P13: Look = %+v", l)
	}
	isBad(t, n, block(t, three.id, base1, own1), api.ErrTwice)
	has(t, n,
		left(one.coin(0, 0), own1.Outs[0], 3),
		left(two.coin(0, 0), out(0, ""), 2),
		left(three.coin(0, 0), out(0, ""), 3))
}

func TestTwiceInOneBlock(t *testing.T) {
	_, base1, own1, _, pay1, pay2, source := twins(t)
	n := started(t, usual())
	one := block(t, zero, source)
	joins(t, n, one)
	isBad(t, n, block(t, one.id, base(7, out(0, "")), pay1, pay2), api.ErrTwice)
	isBad(t, n, block(t, one.id, base1, pay1), api.ErrTwice)
	three := block(t, one.id, base(7, out(0, "")), pay1, own1)
	joins(t, n, three)
	four := block(t, three.id, base(8, out(0, "")), pay(api.Point{Tx: sameID}, out(1, "")), pay2)
	joins(t, n, four)
}

// TestTwinsLeave: coins that were spent and made again under one point come
// back as they were.
func TestTwinsLeave(t *testing.T) {
	base2, _, own1, own2, _, _, _ := twins(t)
	n := started(t, usual())
	one := block(t, zero, base2)
	joins(t, n, one)
	before := seen(n)
	two := block(t, one.id, base(7, out(0, "")), own2, own1)
	joins(t, n, two)
	side := block(t, one.id, base(8, out(0, "")))
	answers(t, n, side, 0, 0, api.OK)
	end := block(t, side.id, base(9, out(0, "")))
	answers(t, n, end, 1, 2, api.OK)
	has(t, n, append(before.coins,
		left(side.coin(0, 0), out(0, ""), 2),
		left(end.coin(0, 0), out(0, ""), 3))...)
}
