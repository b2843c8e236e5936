package node

import (
	"slices"
	"strconv"
	"testing"

	"coinage/api"
	"coinage/wire"
)

func someCoin(i int) api.Coin {
	return api.Coin{Point: api.Point{Tx: "tx " + strconv.Itoa(i/3), Index: i % 3}, Value: i, Height: 1, There: true}
}

func TestShards(t *testing.T) {
	for shards := 1; shards <= 16; shards++ {
		n, e := New(api.Config{Workers: 1, Shards: shards})
		if e != api.OK || len(n.coins.shards) != shards {
			t.Fatalf("Ways: %d shards asked for, %d made, %d", shards, len(n.coins.shards), e)
		}
		for i := range 300 {
			n.coins.put(someCoin(i))
		}
		sum := 0
		for i, s := range n.coins.shards {
			if len(s.coins) == 0 {
				t.Errorf("Ways: shard %d of %d has no coins", i, shards)
			}
			sum += len(s.coins)
		}
		if sum != 300 {
			t.Errorf("Ways: %d coins in the shards", sum)
		}
		for i := range 300 {
			if c := n.coins.take(someCoin(i).Point); c != someCoin(i) {
				t.Errorf("Ways: took %+v", c)
			}
		}
		if l := n.coins.all(); len(l) != 0 {
			t.Errorf("Ways: left %+v", l)
		}
	}
}

func someTrial(i int) trial {
	return trial{key: "key", lock: "lock", id: "id", height: i}
}

func TestMemory(t *testing.T) {
	for _, most := range []int{0, 1, 2, 64} {
		m := memory{most: most}
		for i := range 200 {
			m.note(someTrial(i))
			m.note(someTrial(i))
			if len(m.opened) > most || cap(m.opened) > 2*most+2 {
				t.Fatalf("P7: Memory is %d: %d trials, room for %d", most, len(m.opened), cap(m.opened))
			}
			for j := range i + 1 {
				if m.has(someTrial(j)) != (j > i-most) {
					t.Fatalf("P7: Memory is %d: of %d trials the one of number %d: %v", most, i+1, j, m.has(someTrial(j)))
				}
			}
		}
		all := []trial{someTrial(500), someTrial(199), someTrial(501)}
		fresh := []trial{someTrial(500), someTrial(501)}
		if most == 0 {
			fresh = all
		}
		if l := m.without(all); !slices.Equal(l, fresh) {
			t.Errorf("P7: Memory is %d: to be tried: %+v", most, l)
		}
	}
}

// TestMemoryNotesWhatOpened: what opened is remembered, what did not is not.
func TestMemoryNotesWhatOpened(t *testing.T) {
	n, _ := New(api.Config{Workers: 2, Shards: 1, Memory: 8})
	good := trial{lock: "\x01", id: firstID, height: 1}
	bad := trial{lock: "\x00", id: firstID, height: 1}
	if n.allOpen([]trial{bad, good, good}) || !n.allOpen([]trial{good}) || n.allOpen([]trial{bad}) || !n.allOpen(nil) {
		t.Error("P10: the keys")
	}
	if !slices.Equal(n.memory.opened, []trial{good}) {
		t.Errorf("P7: remembered: %+v", n.memory.opened)
	}
	for i := range 20 {
		n.allOpen([]trial{{lock: "\x01", id: firstID, height: i}})
	}
	if len(n.memory.opened) != 8 {
		t.Errorf("P7: Memory is 8, and %d are remembered", len(n.memory.opened))
	}
}

func TestWayBack(t *testing.T) {
	c := newCoins(3)
	for i := range 20 {
		c.put(someCoin(i))
	}
	before := c.all()
	way := &trail{coins: c}
	for i := range 15 {
		way.take(someCoin(i).Point)
	}
	steps := slices.Clone(way.steps)
	again := someCoin(4)
	again.Height = 7
	way.put(again)
	way.take(again.Point)
	way.put(someCoin(30))
	if coin := way.take(someCoin(31).Point); coin != (api.Coin{}) {
		t.Errorf("Ways: took %+v", coin)
	}
	way.undo(steps)
	way.undo(way.steps)
	if !slices.Equal(c.all(), before) {
		t.Errorf("Ways: led back to %+v, not to %+v", c.all(), before)
	}
}

func handIn(t *testing.T, n *Node, parent string, l ...api.Tx) (string, []string) {
	t.Helper()
	s, e := wire.Encode(api.Block{Parent: parent, Txs: l})
	if e != api.OK {
		t.Fatal(e)
	}
	if _, e := n.Submit(s); e != api.OK {
		t.Fatal(e)
	}
	id, _ := wire.BlockID(s)
	ids, _ := wire.TxIDs(s)
	return id, ids
}

// TestWhateverStopsIt: something breaks while the node goes over; all is where
// it was, and the node goes on.
func TestWhateverStopsIt(t *testing.T) {
	n, _ := New(api.Config{Workers: 2, Shards: 3, Memory: 4, Subsidy: 50})
	coins := []api.Out{{Value: 10, Lock: "\x01"}}
	root, ids := handIn(t, n, firstID, api.Tx{Tag: 1, Outs: coins})
	spend := api.Tx{Tag: 2, Ins: []api.In{{Coin: api.Point{Tx: ids[0]}}}, Outs: coins}
	last, _ := handIn(t, n, root, api.Tx{Tag: 3, Outs: coins}, spend)
	side, _ := handIn(t, n, root, api.Tx{Tag: 4, Outs: coins})
	before, chain := n.Coins(), slices.Clone(n.chain)
	parent := n.find(side)
	broken := &block{id: "a broken", parent: parent, height: 3, work: 3} // it has no transactions
	func() {
		defer func() {
			if recover() == nil {
				t.Error("Ways: nothing broke")
			}
		}()
		n.goOver(broken)
	}()
	if n.Tip().ID != last || len(n.chain) != len(chain) || !slices.Equal(n.Coins(), before) {
		t.Errorf("Ways: the tip is %x, the coins %+v", n.Tip().ID, n.Coins())
	}
	handIn(t, n, last, api.Tx{Tag: 5, Outs: coins})
}

// TestBadForgets: of a bad block only that it is kept and bad is needed.
func TestBadForgets(t *testing.T) {
	n, _ := New(api.Config{Workers: 1, Shards: 1})
	s, _ := wire.Encode(api.Block{Parent: firstID, Txs: []api.Tx{{Outs: []api.Out{{Value: 1}}}}})
	if _, e := n.Submit(s); e != api.ErrValue {
		t.Fatal(e)
	}
	id, _ := wire.BlockID(s)
	if b := n.find(id); b == nil || !b.bad || b.txs != nil {
		t.Errorf("P9: kept: %+v", b)
	}
}
