package node_test

import (
	"fmt"
	"math/rand"
	"slices"
	"strings"
	"sync"
	"testing"

	"coinage/api"
	"coinage/node"
	"coinage/wire"
)

// maker makes blocks by chance, with an eye to what a model knows: most are
// good, and each error comes up.
type maker struct {
	*rand.Rand
	m *model
}

func (r maker) often() bool { return r.Intn(8) > 0 }

func (r maker) once(n int) bool { return r.Intn(n) == 0 }

func (r maker) lock() string {
	return []string{open, open, open, five, later, signed, never, ""}[r.Intn(8)]
}

// key: mostly one that opens the lock.
func (r maker) key(lock, id string) string {
	if r.once(40) {
		return []string{"", "\x05", "\x00\x4c", "\xff"}[r.Intn(4)]
	}
	switch lock {
	case five:
		return "\x05"
	case signed:
		return signature(7, id)
	}
	return ""
}

// outs: some that are together worth no more than room, mostly.
func (r maker) outs(room int) []api.Out {
	var l []api.Out
	for range 1 + r.Intn(3) {
		v := r.Intn(room + 1)
		room -= v
		l = append(l, out(v, r.lock()))
	}
	if r.once(30) {
		l[0].Value += room + 1
	}
	return l
}

// parent: the chain's last block, or one that is nearly as heavy, so that
// branches overtake one another; now and then any one.
func (r maker) parent() *entry {
	if r.Intn(3) == 0 {
		return r.m.last
	}
	near := !r.once(20)
	var l []*entry
	for _, x := range r.m.kept {
		if !near || !x.bad && x.work > r.m.last.work-4 {
			l = append(l, x)
		}
	}
	slices.SortFunc(l, func(a, b *entry) int { return strings.Compare(a.id, b.id) })
	return l[r.Intn(len(l))]
}

// spending: a transaction that spends some of the coins, and those left over.
func (r maker) spending(coins []api.Coin) (api.Tx, []api.Coin, int) {
	x := api.Tx{Tag: r.Intn(3)}
	room := 0
	for range 1 + r.Intn(3) {
		if len(coins) == 0 {
			break
		}
		at := r.Intn(len(coins))
		c := coins[at]
		if c.Lock == never || c.Lock == "" {
			if r.often() {
				continue
			}
		}
		x.Ins = append(x.Ins, in(c.Point, c.Lock))
		room += c.Value
		if r.Intn(40) > 0 {
			coins = slices.Delete(coins, at, at+1)
		}
	}
	if len(x.Ins) == 0 {
		return x, coins, 0
	}
	if r.once(40) {
		x.Ins[0].Coin.Index += 1 + r.Intn(3)
	}
	x.Outs = r.outs(room)
	return x, coins, max(0, room-worth(x))
}

// block: its bytes, mostly with the bits that its id shows.
func (r maker) block() string {
	parent := r.parent()
	b := api.Block{Parent: parent.id, Bits: r.Intn(3), Txs: make([]api.Tx, 1)}
	if r.once(40) {
		b.Parent = "abcdefgh"
	}
	b.Bits = max(b.Bits, r.m.config.Bits)
	var coins []api.Coin
	if !parent.bad {
		coins = r.m.coinsAt(parent)
	}
	fees := 0
	for range r.Intn(4) {
		x, rest, fee := r.spending(coins)
		if len(x.Ins) == 0 {
			continue
		}
		fees += fee
		coins = rest
		id := idOf(x)
		for i := range x.Ins { // spending leaves the lock where the key is to be
			x.Ins[i].Key = r.key(x.Ins[i].Key, id)
		}
		for i, o := range x.Outs {
			coins = append(coins, api.Coin{Point: api.Point{Tx: id, Index: i}, Value: o.Value, Lock: o.Lock})
		}
		b.Txs = append(b.Txs, x)
	}
	b.Txs[0] = base(r.Intn(20), r.outs(r.m.config.Subsidy+fees)...)
	if r.once(30) {
		b.Txs[0] = base(0, out(1, open))
	}
	if r.once(30) {
		b.Bits = max(0, b.Bits-1)
	}
	return r.mine(b)
}

func (r maker) mine(b api.Block) string {
	for {
		b.Nonce = r.Intn(65536)
		s, e := wire.Encode(b)
		id, _ := wire.BlockID(s)
		if e != api.OK || shown(id) >= b.Bits || r.once(60) {
			return s
		}
	}
}

func idOf(x api.Tx) string {
	s, _ := wire.Encode(api.Block{Parent: zero, Txs: []api.Tx{base(0, out(0, "")), x}})
	ids, _ := wire.TxIDs(s)
	if len(ids) == 0 {
		return zero
	}
	return ids[1]
}

// alike: nodes that differ only in what must not show.
func alike(t *testing.T, subsidy, bits int) []*node.Node {
	t.Helper()
	var l []*node.Node
	for _, c := range []api.Config{
		{Workers: 1, Shards: 1, Memory: 0},
		{Workers: 8, Shards: 16, Memory: 64},
		{Workers: 3, Shards: 5, Memory: 1},
	} {
		c.Subsidy, c.Bits = subsidy, bits
		l = append(l, started(t, c))
	}
	return l
}

// follows: all nodes answer as the model does, and show what it shows.
func follows(t *testing.T, m *model, nodes []*node.Node, s string) (api.Report, api.Errno) {
	t.Helper()
	r, e := m.submit(s)
	v := m.view()
	for i, n := range nodes {
		if got, f := n.Submit(s); got != r || f != e {
			t.Fatalf("P8 to P10: node %d: Submit(%x) = %+v, %d, want %+v, %d", i, s, got, f, r, e)
		}
		if w := seen(n); !w.is(v) {
			t.Fatalf("P12 to P14: node %d behind Submit(%x): %+v, want %+v", i, s, w, v)
		}
	}
	return r, e
}

func TestAnyBlocks(t *testing.T) {
	count := map[string]int{}
	for seed := range 150 {
		subsidy, bits := []int{50, 0, 7, 1000000}[seed%4], []int{0, 0, 1}[seed%3]
		m, nodes := newModel(api.Config{Subsidy: subsidy, Bits: bits}), alike(t, subsidy, bits)
		r := maker{rand.New(rand.NewSource(int64(seed))), m}
		var all []string
		for range 70 {
			s := r.block()
			if len(all) > 0 && r.once(30) {
				s = all[r.Intn(len(all))]
			}
			if r.once(60) {
				s = s[:r.Intn(len(s))]
			}
			all = append(all, s)
			kept := len(m.kept)
			report, e := follows(t, m, nodes, s)
			if e == api.ErrBranch && len(m.kept) > kept {
				count["bad within a branch"]++
			}
			count[fmt.Sprint("error ", e)]++
			if e == api.OK {
				count[fmt.Sprintf("%d left, %d joined", min(report.Left, 2), min(report.Joined, 3))]++
			}
		}
		looksAlike(t, m, nodes)
		handedInAgain(t, m, subsidy, bits, nodes[0])
		worthAtMost(t, nodes[0], subsidy)
	}
	for _, e := range []api.Errno{api.OK, api.ErrForm, api.ErrFull, api.ErrKnown, api.ErrWork, api.ErrParent, api.ErrBranch, api.ErrTwice, api.ErrInput, api.ErrValue, api.ErrScript} {
		if count[fmt.Sprint("error ", e)] < 10 {
			t.Errorf("the error %d came up %d times", e, count[fmt.Sprint("error ", e)])
		}
	}
	for _, s := range []string{"0 left, 0 joined", "0 left, 1 joined", "1 left, 1 joined", "1 left, 2 joined", "2 left, 3 joined", "bad within a branch"} {
		if count[s] < 10 {
			t.Errorf("%s came up %d times", s, count[s])
		}
	}
	t.Log(count)
}

// looksAlike: of every coin that any kept block would make.
func looksAlike(t *testing.T, m *model, nodes []*node.Node) {
	t.Helper()
	var points []api.Point
	for _, x := range m.kept {
		for _, id := range x.txs {
			for i := range 4 {
				points = append(points, api.Point{Tx: id, Index: i})
			}
		}
	}
	want := make([]api.Coin, len(points))
	for _, c := range m.coinsAt(m.last) {
		for i, p := range points {
			if p == c.Point {
				want[i] = c
			}
		}
	}
	for i, n := range nodes {
		if l, tip := n.Look(points); !slices.Equal(l, want) || tip != n.Tip() {
			t.Fatalf("P13: node %d: Look = %+v, %+v, want %+v", i, l, tip, want)
		}
	}
}

// handedInAgain: a node that is given just the chain's blocks has its coins.
func handedInAgain(t *testing.T, m *model, subsidy, bits int, n *node.Node) {
	t.Helper()
	again := started(t, api.Config{Workers: 2, Shards: 2, Memory: 2, Subsidy: subsidy, Bits: bits})
	for _, x := range line(m.last)[1:] {
		s, _ := wire.Encode(x.block)
		joins(t, again, made{s: s})
	}
	if v, w := seen(n), seen(again); !v.is(w) {
		t.Fatalf("P14: %+v, but blocks handed in one behind the other: %+v", v, w)
	}
}

func worthAtMost(t *testing.T, n *node.Node, subsidy int) {
	t.Helper()
	sum := 0
	for _, c := range n.Coins() {
		sum += c.Value
	}
	if sum > subsidy*n.Tip().Height {
		t.Fatalf("P14: coins worth %d at the height %d", sum, n.Tip().Height)
	}
}

// TestSameTime: while one hands blocks in, others look: each sees the coins of
// the tip that it is told.
func TestSameTime(t *testing.T) {
	m := newModel(api.Config{Subsidy: 50})
	r := maker{rand.New(rand.NewSource(1)), m}
	var blocks []string
	var points []api.Point
	views := map[string][]api.Coin{zero: nil}
	for range 60 {
		s := r.block()
		blocks = append(blocks, s)
		m.submit(s)
		views[m.last.id] = m.view().coins
		ids, _ := wire.TxIDs(s)
		for _, id := range ids {
			points = append(points, api.Point{Tx: id}, api.Point{Tx: id, Index: 1})
		}
	}
	n := started(t, api.Config{Workers: 4, Shards: 3, Memory: 9, Subsidy: 50})
	done := make(chan struct{})
	var all sync.WaitGroup
	for range 6 {
		all.Go(func() { watch(t, n, points, views, done) })
	}
	for _, s := range blocks {
		n.Submit(s)
	}
	close(done)
	all.Wait()
	if v := seen(n); !v.is(m.view()) {
		t.Errorf("P14: %+v, want %+v", v, m.view())
	}
}

func watch(t *testing.T, n *node.Node, points []api.Point, views map[string][]api.Coin, done chan struct{}) {
	for {
		l, tip := n.Look(points)
		for i, p := range points {
			at := slices.IndexFunc(views[tip.ID], func(c api.Coin) bool { return c.Point == p })
			if l[i].There != (at >= 0) || at >= 0 && l[i] != views[tip.ID][at] {
				t.Errorf("P13: with the tip %x Look tells %+v of %+v", tip.ID, l[i], p)
				return
			}
		}
		if id, e := n.At(n.Tip().Height + 100); id != "" || e != api.ErrHeight {
			t.Errorf("P12: At = %x, %d", id, e)
		}
		n.Coins()
		select {
		case <-done:
			return
		default:
		}
	}
}
