package node_test

import (
	"math"
	"testing"

	"coinage/api"
	"coinage/node"
)

func TestNew(t *testing.T) {
	for _, f := range []struct {
		name      string
		low, high int
		set       func(c *api.Config, v int)
	}{
		{"Workers", 1, 8, func(c *api.Config, v int) { c.Workers = v }},
		{"Shards", 1, 16, func(c *api.Config, v int) { c.Shards = v }},
		{"Memory", 0, 64, func(c *api.Config, v int) { c.Memory = v }},
		{"Subsidy", 0, 1000000, func(c *api.Config, v int) { c.Subsidy = v }},
		{"Bits", 0, 8, func(c *api.Config, v int) { c.Bits = v }},
	} {
		for _, v := range []int{f.low, f.low + 1, (f.low + f.high) / 2, f.high - 1, f.high} {
			c := usual()
			f.set(&c, v)
			n := started(t, c)
			endsWith(t, n, zero, 0, 0)
			has(t, n)
		}
		for _, v := range []int{f.low - 1, f.high + 1, f.low - 256, f.high + 256, f.high + 1<<32, math.MaxInt, math.MinInt} {
			c := usual()
			f.set(&c, v)
			if n, e := node.New(c); n != nil || e != api.ErrConfig {
				t.Errorf("P7: New with %s %d = %v, %d", f.name, v, n, e)
			}
		}
	}
	if n, e := node.New(api.Config{}); n != nil || e != api.ErrConfig {
		t.Errorf("P7: New of nothing = %v, %d", n, e)
	}
}

func TestNewIsEmpty(t *testing.T) {
	n := started(t, usual())
	if id, e := n.At(0); id != zero || e != api.OK {
		t.Errorf("P12: At(0) = %x, %d", id, e)
	}
	for _, h := range []int{1, 2, 48, math.MaxInt, -1, math.MinInt} {
		if id, e := n.At(h); id != "" || e != api.ErrHeight {
			t.Errorf("P12: At(%d) = %x, %d", h, id, e)
		}
	}
	l, tip := n.Look([]api.Point{{}, {Tx: zero}})
	if len(l) != 2 || l[0] != (api.Coin{}) || l[1] != (api.Coin{}) || tip != (api.Tip{ID: zero}) {
		t.Errorf("P13: Look = %+v, %+v", l, tip)
	}
}

// TestNodesApart: what one node is given, another one of the same configuration
// knows nothing of.
func TestNodesApart(t *testing.T) {
	a, b := started(t, usual()), started(t, usual())
	one := block(t, zero, base(1, out(50, open)))
	joins(t, a, one)
	endsWith(t, b, zero, 0, 0)
	has(t, b)
	two := block(t, one.id, base(2, out(50, open)))
	refused(t, b, two, api.ErrParent)
	joins(t, b, one)
	joins(t, b, two)
	endsWith(t, a, one.id, 1, 1)
	has(t, a, left(one.coin(0, 0), out(50, open), 1))
}
