package node_test

import (
	"fmt"
	"math/rand"
	"slices"
	"testing"

	"coinage/api"
	"coinage/node"
	"coinage/wire"
)

// forked: a node whose chain is root and two blocks behind it, the first of
// which spends a coin of root. Another branch starts at root.
func forked(t *testing.T) (n *node.Node, root, a, last made) {
	t.Helper()
	n = started(t, usual())
	root = block(t, zero, base(1, out(20, open), out(20, never), out(10, open)))
	joins(t, n, root)
	a = block(t, root.id, base(2, out(50, open)), pay(root.coin(0, 0), out(20, open)))
	joins(t, n, a)
	last = block(t, a.id, base(3, out(50, open)))
	joins(t, n, last)
	return
}

// TestLeftCoins: on a branch the coins of the blocks that leave are not there,
// and those that they spent are, so that the same transactions may come again.
func TestLeftCoins(t *testing.T) {
	n, root, a, _ := forked(t)
	again := []api.Tx{base(2, out(50, open)), pay(root.coin(0, 0), out(20, open))}
	b := blockOf(t, api.Block{Parent: root.id, Nonce: 1, Txs: again})
	if b.id == a.id || !slices.Equal(b.txs, a.txs) {
		t.Fatalf("P5: the ids are %x, %q and %x, %q", a.id, a.txs, b.id, b.txs)
	}
	c := block(t, b.id, base(4, out(50, open)))
	answers(t, n, b, 0, 0, api.OK)
	answers(t, n, c, 0, 0, api.OK)
	isBad(t, n, block(t, c.id, base(5, out(0, "")), pay(root.coin(0, 0), out(0, ""))), api.ErrInput)
	isBad(t, n, block(t, c.id, base(2, out(50, open))), api.ErrTwice)
	end := block(t, c.id, base(3, out(50, open)), pay(a.coin(0, 0), out(50, open)))
	answers(t, n, end, 2, 3, api.OK)
	has(t, n,
		left(root.coin(0, 1), out(20, never), 1),
		left(root.coin(0, 2), out(10, open), 1),
		left(b.coin(1, 0), out(20, open), 2),
		left(c.coin(0, 0), out(50, open), 3),
		left(end.coin(0, 0), out(50, open), 4),
		left(end.coin(1, 0), out(50, open), 4))
}

// TestEachErrorWithin: whatever is wrong with a block of the branch that is not
// the one handed in, and wherever it stands, the answer is ErrBranch.
func TestEachErrorWithin(t *testing.T) {
	faults := map[string]func(root, a, last made) []api.Tx{
		"a coin that left": func(root, a, last made) []api.Tx {
			return []api.Tx{base(8, out(0, "")), pay(last.coin(0, 0), out(0, ""))}
		},
		"a coin spent twice": func(root, a, last made) []api.Tx {
			return []api.Tx{base(8, out(0, "")), pay(root.coin(0, 0), out(0, "")), pay(root.coin(0, 0), out(1, ""))}
		},
		"too much out": func(root, a, last made) []api.Tx {
			return []api.Tx{base(8, out(0, "")), pay(root.coin(0, 0), out(21, ""))}
		},
		"too much anew": func(root, a, last made) []api.Tx { return []api.Tx{base(8, out(51, ""))} },
		"coins twice": func(root, a, last made) []api.Tx {
			return []api.Tx{base(1, out(20, open), out(20, never), out(10, open)), pay(root.coin(0, 0), out(0, ""))}
		},
		"a key that fails": func(root, a, last made) []api.Tx {
			return []api.Tx{base(8, out(0, "")), pay(root.coin(0, 2), out(0, "")), pay(root.coin(0, 1), out(0, ""))}
		},
	}
	for name, fault := range faults {
		for at := range 2 {
			t.Run(fmt.Sprint(name, ", ", at), func(t *testing.T) {
				failsWithin(t, at, fault)
			})
		}
	}
}

// failsWithin: a branch of three blocks, of which the one at a place has the
// fault.
func failsWithin(t *testing.T, at int, fault func(root, a, last made) []api.Tx) {
	t.Helper()
	n, root, a, last := forked(t)
	parent := root
	var branch []made
	for i := range 2 {
		l := []api.Tx{base(10+i, out(50, open))}
		if i == at {
			l = fault(root, a, last)
		}
		parent = block(t, parent.id, l...)
		answers(t, n, parent, 0, 0, api.OK)
		branch = append(branch, parent)
	}
	end := block(t, parent.id, base(12, out(50, open)))
	branch = append(branch, end)
	refused(t, n, end, api.ErrBranch)
	endsWith(t, n, last.id, 3, 3)
	for _, m := range branch[at:] {
		refused(t, n, m, api.ErrKnown)
		refused(t, n, block(t, m.id, base(13, out(0, ""))), api.ErrBranch)
	}
	for _, m := range branch[:at] {
		answers(t, n, block(t, m.id, base(13, out(50, open))), 0, 0, api.OK)
	}
	joins(t, n, block(t, last.id, base(14, out(50, open)), pay(a.coin(1, 0), out(20, ""))))
}

// TestOverWhenFull: the last block that may be kept brings a whole branch in;
// or it is bad, and is kept nonetheless.
func TestOverWhenFull(t *testing.T) {
	for _, value := range []int{50, 51} {
		n := started(t, usual())
		grow := func(parent string, tag, many, joined int) string {
			for i := range many {
				m := block(t, parent, base(tag+i, out(50, open)))
				answers(t, n, m, 0, joined, api.OK)
				parent = m.id
			}
			return parent
		}
		last := grow(zero, 100, 23, 1)
		side := grow(zero, 200, 23, 0)
		aside := block(t, side, base(300, out(0, "")), pay(api.Point{Tx: "abcdefgh"}, out(0, "")))
		isBad(t, n, aside, api.ErrInput)
		end := block(t, side, base(400, out(value, open)))
		if value == 50 {
			answers(t, n, end, 23, 24, api.OK)
			endsWith(t, n, end.id, 24, 24)
			last = end.id
		} else {
			isBad(t, n, end, api.ErrValue)
			endsWith(t, n, last, 23, 23)
		}
		isGone(t, n, block(t, last, base(500, out(50, open))), api.ErrFull)
		isGone(t, n, block(t, side, base(500, out(50, open))), api.ErrFull)
		isGone(t, n, block(t, aside.id, base(500, out(50, open))), api.ErrBranch)
	}
}

// TestLeftStaysKept: blocks that left are known, and may be built on.
func TestLeftStaysKept(t *testing.T) {
	n, root, a, last := forked(t)
	heavy := mined(t, root.id, 2, true, base(4, out(50, open)))
	answers(t, n, heavy, 2, 1, api.OK)
	endsWith(t, n, heavy.id, 2, 5)
	for _, m := range []made{root, a, last, heavy} {
		refused(t, n, m, api.ErrKnown)
	}
	back := mined(t, last.id, 1, true, base(5, out(50, open)))
	answers(t, n, back, 0, 0, api.OK) // 3 and 2: as heavy
	more := block(t, back.id, base(6, out(50, open)))
	answers(t, n, more, 1, 4, api.OK)
	endsWith(t, n, more.id, 5, 6)
	for h, id := range []string{zero, root.id, a.id, last.id, back.id, more.id} {
		if x, e := n.At(h); x != id || e != api.OK {
			t.Errorf("P12: At(%d) = %x, %d, want %x", h, x, e, id)
		}
	}
}

// told: all that a node of a configuration answers to some blocks.
func told(t *testing.T, c api.Config, blocks []string, points []api.Point) string {
	t.Helper()
	n := started(t, c)
	var l []any
	for _, s := range blocks {
		r, e := n.Submit(s)
		coins, tip := n.Look(points)
		l = append(l, r, e, seen(n), coins, tip)
	}
	return fmt.Sprint(l...)
}

// TestShowsInNothing: every number of workers and of shards, and the edges of
// the memory, with blocks that make a node go to and fro.
func TestShowsInNothing(t *testing.T) {
	m := newModel(api.Config{Subsidy: 50})
	r := maker{rand.New(rand.NewSource(4)), m}
	var blocks []string
	var points []api.Point
	over, bad := 0, 0
	for range 60 {
		s := r.block()
		blocks = append(blocks, s)
		kept := len(m.kept)
		report, e := m.submit(s)
		if report.Left > 0 {
			over++
		}
		if e != api.OK && len(m.kept) > kept {
			bad++
		}
		ids, _ := wire.TxIDs(s)
		for _, id := range ids {
			points = append(points, api.Point{Tx: id}, api.Point{Tx: id, Index: 1})
		}
	}
	if over < 3 || bad < 3 {
		t.Fatalf("the blocks let a node go over %d times, and %d are bad", over, bad)
	}
	want := told(t, api.Config{Workers: 1, Shards: 1, Subsidy: 50}, blocks, points)
	memories := []int{0, 1, 2, 31, 63, 64}
	for workers := 1; workers <= 8; workers++ {
		for shards := 1; shards <= 16; shards++ {
			c := api.Config{Workers: workers, Shards: shards, Memory: memories[(workers+shards)%6], Subsidy: 50}
			if told(t, c, blocks, points) != want {
				t.Errorf("P14: %+v shows", c)
			}
		}
	}
}
