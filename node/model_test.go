package node_test

import (
	"slices"
	"sort"

	"coinage/api"
	"coinage/code"
	"coinage/wire"
)

// model is a second node, written another way, to hold the first one against:
// it keeps no coins, but works them out anew from the first block on.
type model struct {
	config api.Config
	kept   map[string]*entry
	last   *entry
}

type entry struct {
	block  api.Block
	id     string
	txs    []string
	parent *entry
	height int
	work   int
	bad    bool
}

func newModel(c api.Config) *model {
	first := &entry{id: zero}
	return &model{config: c, kept: map[string]*entry{zero: first}, last: first}
}

func (m *model) submit(s string) (api.Report, api.Errno) {
	var none api.Report
	b, e := wire.Decode(s)
	if e != api.OK {
		return none, api.ErrForm
	}
	id, _ := wire.BlockID(s)
	txs, _ := wire.TxIDs(s)
	if m.kept[id] != nil {
		return none, api.ErrKnown
	}
	if b.Bits < m.config.Bits || shown(id) < b.Bits {
		return none, api.ErrWork
	}
	parent := m.kept[b.Parent]
	if parent == nil {
		return none, api.ErrParent
	}
	if parent.bad {
		return none, api.ErrBranch
	}
	if len(m.kept) == 49 {
		return none, api.ErrFull
	}
	work := 1
	for range b.Bits {
		work *= 2
	}
	x := &entry{block: b, id: id, txs: txs, parent: parent, height: parent.height + 1, work: parent.work + work}
	m.kept[id] = x
	if x.work <= m.last.work {
		return none, api.OK
	}
	return m.over(x)
}

func (m *model) over(x *entry) (api.Report, api.Errno) {
	old, now := line(m.last), line(x)
	common := 0
	for common < len(old) && old[common] == now[common] {
		common++
	}
	coins := m.coinsAt(now[common-1])
	for _, y := range now[common:] {
		next, e := m.apply(coins, y)
		if e == api.OK {
			coins = next
			continue
		}
		for _, z := range m.kept {
			if slices.Contains(line(z), y) {
				z.bad = true
			}
		}
		if y != x {
			e = api.ErrBranch
		}
		return api.Report{}, e
	}
	m.last = x
	return api.Report{Left: len(old) - common, Joined: len(now) - common}, api.OK
}

// line: a block's ancestors from the first one on, and itself.
func line(x *entry) []*entry {
	if x == nil {
		return nil
	}
	return append(line(x.parent), x)
}

func (m *model) coinsAt(x *entry) []api.Coin {
	var coins []api.Coin
	for _, y := range line(x)[1:] {
		coins, _ = m.apply(coins, y)
	}
	return coins
}

// apply: the coins behind a block, if it is good, and its error.
func (m *model) apply(coins []api.Coin, x *entry) ([]api.Coin, api.Errno) {
	coins = slices.Clone(coins)
	room, opens, twice := m.config.Subsidy, true, false
	for i := 1; i < len(x.txs); i++ {
		spent := 0
		for _, in := range x.block.Txs[i].Ins {
			at := slices.IndexFunc(coins, func(c api.Coin) bool { return c.Point == in.Coin })
			if at < 0 {
				return nil, api.ErrInput
			}
			e, _ := code.Run(in.Key, coins[at].Lock, x.txs[i], x.height)
			opens = opens && e == api.OK
			spent += coins[at].Value
			coins = slices.Delete(coins, at, at+1)
		}
		fee := spent - worth(x.block.Txs[i])
		if fee < 0 {
			return nil, api.ErrValue
		}
		room += fee
		if coins, twice = x.add(coins, i); twice {
			return nil, api.ErrTwice
		}
	}
	if worth(x.block.Txs[0]) > room {
		return nil, api.ErrValue
	}
	if coins, twice = x.add(coins, 0); twice {
		return nil, api.ErrTwice
	}
	if !opens {
		return nil, api.ErrScript
	}
	return coins, api.OK
}

func worth(x api.Tx) int {
	n := 0
	for _, out := range x.Outs {
		n += out.Value
	}
	return n
}

// add: the coins with those that a transaction makes; or that one of its id is
// there already.
func (x *entry) add(coins []api.Coin, i int) ([]api.Coin, bool) {
	for _, c := range coins {
		if c.Point.Tx == x.txs[i] {
			return nil, true
		}
	}
	for j, out := range x.block.Txs[i].Outs {
		coins = append(coins, api.Coin{Point: api.Point{Tx: x.txs[i], Index: j}, Value: out.Value, Lock: out.Lock, Height: x.height, There: true})
	}
	return coins, false
}

// view: what a node is to show.
func (m *model) view() view {
	v := view{tip: api.Tip{ID: m.last.id, Height: m.last.height, Work: m.last.work}, coins: m.coinsAt(m.last)}
	for _, x := range line(m.last) {
		v.ids = append(v.ids, x.id)
	}
	sort.Slice(v.coins, func(i, j int) bool {
		a, b := v.coins[i].Point, v.coins[j].Point
		return a.Tx < b.Tx || a.Tx == b.Tx && a.Index < b.Index
	})
	return v
}
