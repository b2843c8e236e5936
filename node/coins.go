package node

import (
	"cmp"
	"slices"
	"strings"
	"sync"

	"coinage/api"
	"coinage/digest"
)

// shard is a part of the coins, under a lock of its own.
type shard struct {
	lock  sync.RWMutex
	coins map[api.Point]api.Coin
}

// coins is all coins that are left in the chain, each with There true, so that
// a coin that is not found, which is zero, tells so itself.
type coins struct {
	shards []*shard
}

func newCoins(shards int) coins {
	c := coins{shards: make([]*shard, shards)}
	for i := range c.shards {
		c.shards[i] = &shard{coins: make(map[api.Point]api.Coin)}
	}
	return c
}

// shard tells where a coin lies. Look is asked for any point: its Tx may have
// any length.
func (c coins) shard(p api.Point) *shard {
	at := (digest.H(p.Tx) + uint64(p.Index)) % uint64(len(c.shards))
	return c.shards[at]
}

func (c coins) look(p api.Point) api.Coin {
	s := c.shard(p)
	s.lock.RLock()
	defer s.lock.RUnlock()
	return s.coins[p]
}

func (c coins) put(coin api.Coin) {
	s := c.shard(coin.Point)
	s.lock.Lock()
	defer s.lock.Unlock()
	s.coins[coin.Point] = coin
}

func (c coins) take(p api.Point) api.Coin {
	s := c.shard(p)
	s.lock.Lock()
	defer s.lock.Unlock()
	coin := s.coins[p]
	delete(s.coins, p)
	return coin
}

// anyOf tells whether a coin of a transaction's id is there. Another
// transaction may have the same id and more Outs, so all indexes are asked.
func (c coins) anyOf(tx string) bool {
	for i := range api.MaxOuts {
		if c.look(api.Point{Tx: tx, Index: i}).There {
			return true
		}
	}
	return false
}

func (c coins) all() []api.Coin {
	var l []api.Coin
	for _, s := range c.shards {
		l = s.appendTo(l)
	}
	slices.SortFunc(l, func(a, b api.Coin) int {
		return cmp.Or(strings.Compare(a.Point.Tx, b.Point.Tx), cmp.Compare(a.Point.Index, b.Point.Index))
	})
	return l
}

func (s *shard) appendTo(l []api.Coin) []api.Coin {
	s.lock.RLock()
	defer s.lock.RUnlock()
	for _, coin := range s.coins {
		l = append(l, coin)
	}
	return l
}
