package node_test

import (
	"encoding/binary"
	"hash/fnv"
	"slices"
	"testing"

	"coinage/api"
	"coinage/node"
	"coinage/wire"
)

const zero = "\x00\x00\x00\x00\x00\x00\x00\x00"

// Locks, by what opens them.
const (
	open   = "\x01"             // any key that does not fail
	never  = "\x00"             // none
	five   = "\x05\x47"         // the key 05
	signed = "\x07\x4b"         // signature(7, id)
	later  = "\x4d\x03\x48\x49" // the empty key, from the height 3 on
)

func usual() api.Config {
	return api.Config{Workers: 3, Shards: 4, Memory: 5, Subsidy: 50}
}

func started(t *testing.T, c api.Config) *node.Node {
	t.Helper()
	n, e := node.New(c)
	if n == nil || e != api.OK {
		t.Fatalf("P7: New(%+v) = %v, %d", c, n, e)
	}
	return n
}

func out(value int, lock string) api.Out {
	return api.Out{Value: value, Lock: lock}
}

func base(tag int, l ...api.Out) api.Tx {
	return api.Tx{Tag: tag, Outs: l}
}

func in(p api.Point, key string) api.In {
	return api.In{Coin: p, Key: key}
}

func move(l []api.In, outs ...api.Out) api.Tx {
	return api.Tx{Tag: 9, Ins: l, Outs: outs}
}

// pay spends one coin with the empty key.
func pay(p api.Point, outs ...api.Out) api.Tx {
	return move([]api.In{in(p, "")}, outs...)
}

// push: code that puts a number on the stack.
func push(n uint64) string {
	return "\x40" + string(binary.BigEndian.AppendUint64(nil, n))
}

func signature(k uint64, id string) string {
	h := fnv.New64a()
	h.Write(binary.BigEndian.AppendUint64(nil, k))
	h.Write([]byte(id))
	return push(h.Sum64())
}

// made is a block with its bytes and ids.
type made struct {
	s, id string
	txs   []string
}

func (m made) coin(tx, index int) api.Point {
	return api.Point{Tx: m.txs[tx], Index: index}
}

func blockOf(t *testing.T, b api.Block) made {
	t.Helper()
	s, e := wire.Encode(b)
	id, f := wire.BlockID(s)
	txs, g := wire.TxIDs(s)
	if e != api.OK || f != api.OK || g != api.OK {
		t.Fatalf("no block: %+v: %d, %d, %d", b, e, f, g)
	}
	return made{s, id, txs}
}

func block(t *testing.T, parent string, l ...api.Tx) made {
	t.Helper()
	return blockOf(t, api.Block{Parent: parent, Txs: l})
}

// mined: a block whose id shows just so many bits, or more if more is set.
func mined(t *testing.T, parent string, bits int, more bool, l ...api.Tx) made {
	t.Helper()
	for nonce := range 65536 {
		m := blockOf(t, api.Block{Parent: parent, Bits: bits, Nonce: nonce, Txs: l})
		if shown(m.id) == bits || more && shown(m.id) > bits {
			return m
		}
	}
	t.Fatal("no nonce")
	return made{}
}

// shown: how many bits at the end of an id are 0.
func shown(id string) int {
	n := 0
	for x := binary.BigEndian.Uint64([]byte(id)); n < 64 && x&1 == 0; x >>= 1 {
		n++
	}
	return n
}

// answers: what Submit tells of a block.
func answers(t *testing.T, n *node.Node, m made, left, joined int, want api.Errno) {
	t.Helper()
	r, e := n.Submit(m.s)
	if r != (api.Report{Left: left, Joined: joined}) || e != want {
		t.Fatalf("P8 to P10: Submit(%x) = %+v, %d, want %d, %d, %d", m.s, r, e, left, joined, want)
	}
}

// joins: a block that is good, behind the chain's last one.
func joins(t *testing.T, n *node.Node, m made) {
	t.Helper()
	answers(t, n, m, 0, 1, api.OK)
}

// refused: a block that is not kept, or is kept and bad: nothing that can be
// seen is changed, however often it is handed in.
func refused(t *testing.T, n *node.Node, m made, want api.Errno) {
	t.Helper()
	before := seen(n)
	answers(t, n, m, 0, 0, want)
	if after := seen(n); !after.is(before) {
		t.Fatalf("P9, P11: refused by %d, Submit changed %+v to %+v", want, before, after)
	}
}

// isBad: a block that is kept and bad from this call on.
func isBad(t *testing.T, n *node.Node, m made, want api.Errno) {
	t.Helper()
	refused(t, n, m, want)
	refused(t, n, m, api.ErrKnown)
	refused(t, n, block(t, m.id, base(1, out(0, ""))), api.ErrBranch)
}

// isGone: a block that was not kept: one behind it has no parent.
func isGone(t *testing.T, n *node.Node, m made, want api.Errno) {
	t.Helper()
	refused(t, n, m, want)
	refused(t, n, m, want)
	for nonce := range 65536 {
		b := blockOf(t, api.Block{Parent: m.id, Bits: 8, Nonce: nonce, Txs: []api.Tx{base(1, out(0, ""))}})
		if shown(b.id) >= 8 {
			refused(t, n, b, api.ErrParent)
			return
		}
	}
}

// view is all that a node tells without a point being named.
type view struct {
	tip   api.Tip
	ids   []string
	coins []api.Coin
}

func (v view) is(w view) bool {
	return v.tip == w.tip && slices.Equal(v.ids, w.ids) && slices.Equal(v.coins, w.coins)
}

func seen(n *node.Node) view {
	v := view{tip: n.Tip(), coins: n.Coins()}
	for h := 0; ; h++ {
		id, e := n.At(h)
		if e != api.OK {
			return v
		}
		v.ids = append(v.ids, id)
	}
}

// endsWith: the chain's last block.
func endsWith(t *testing.T, n *node.Node, id string, height, work int) {
	t.Helper()
	if x := n.Tip(); x != (api.Tip{ID: id, Height: height, Work: work}) {
		t.Fatalf("P12: Tip() = %+v, want %x, %d, %d", x, id, height, work)
	}
}

// has: all coins that are left, as they are told.
func has(t *testing.T, n *node.Node, want ...api.Coin) {
	t.Helper()
	slices.SortFunc(want, func(a, b api.Coin) int {
		if a.Point.Tx < b.Point.Tx || a.Point.Tx == b.Point.Tx && a.Point.Index < b.Point.Index {
			return -1
		}
		return 1
	})
	if l := n.Coins(); !slices.Equal(l, want) {
		t.Fatalf("P13: Coins() = %+v, want %+v", l, want)
	}
}

func left(p api.Point, o api.Out, height int) api.Coin {
	return api.Coin{Point: p, Value: o.Value, Lock: o.Lock, Height: height, There: true}
}
