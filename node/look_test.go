package node_test

import (
	"math"
	"slices"
	"strings"
	"testing"

	"coinage/api"
)

func TestAt(t *testing.T) {
	n := started(t, usual())
	ids := []string{zero}
	for i := range 5 {
		m := block(t, ids[i], base(i, out(50, open)))
		joins(t, n, m)
		ids = append(ids, m.id)
		endsWith(t, n, m.id, i+1, i+1)
		for h, id := range ids {
			if x, e := n.At(h); x != id || e != api.OK {
				t.Errorf("P12: At(%d) = %x, %d, want %x", h, x, e, id)
			}
		}
		for _, h := range []int{i + 2, i + 3, 48, 1 << 32, math.MaxInt, -1, -i - 1, math.MinInt} {
			if x, e := n.At(h); x != "" || e != api.ErrHeight {
				t.Errorf("P12: At(%d) = %x, %d", h, x, e)
			}
		}
	}
}

func TestLook(t *testing.T) {
	n, two := rich(t)
	a, c := left(two.coin(1, 0), out(10, open), 2), left(two.coin(1, 2), out(10, five), 2)
	none := api.Coin{}
	gone := block(t, zero, base(1, out(50, open))).coin(0, 0)
	at := func(index int) api.Point { return api.Point{Tx: a.Point.Tx, Index: index} }
	for _, l := range []struct {
		points []api.Point
		coins  []api.Coin
	}{
		{nil, nil},
		{[]api.Point{}, nil},
		{[]api.Point{a.Point}, []api.Coin{a}},
		{[]api.Point{c.Point, a.Point}, []api.Coin{c, a}},
		{[]api.Point{a.Point, a.Point, c.Point, a.Point}, []api.Coin{a, a, c, a}},
		{[]api.Point{gone, a.Point}, []api.Coin{none, a}},
		{[]api.Point{{}, {Tx: zero}, {Tx: two.id}}, []api.Coin{none, none, none}},
		{[]api.Point{at(4), at(256), at(-1), at(1 << 32), at(math.MaxInt), at(math.MinInt), at(2)}, []api.Coin{none, none, none, none, none, none, c}},
		{[]api.Point{{Tx: a.Point.Tx[:7]}, {Tx: a.Point.Tx + "\x00"}, {Tx: strings.Repeat("x", 100000)}}, []api.Coin{none, none, none}},
	} {
		got, tip := n.Look(l.points)
		if !slices.Equal(got, l.coins) || tip != n.Tip() {
			t.Errorf("P13: Look(%+v) = %+v, %+v", l.points, got, tip)
		}
	}
}

// TestLookLong: a long list, in its order.
func TestLookLong(t *testing.T) {
	n, two := rich(t)
	points := make([]api.Point, 20000)
	for i := range points {
		points[i] = api.Point{Tx: two.txs[1], Index: i % 7}
	}
	l, _ := n.Look(points)
	if len(l) != len(points) {
		t.Fatalf("P13: %d coins of %d points", len(l), len(points))
	}
	for i, c := range l {
		if c.There != (i%7 < 4) || c.There && c.Point != points[i] {
			t.Fatalf("P13: of %+v: %+v", points[i], c)
		}
	}
}

// TestCoinsInOrder: many coins, in the same order whatever the shards are.
func TestCoinsInOrder(t *testing.T) {
	for shards := 1; shards <= 16; shards++ {
		c := usual()
		c.Shards = shards
		n := started(t, c)
		last := zero
		var want []api.Coin
		for i := range 40 {
			m := block(t, last, base(i, slices.Repeat([]api.Out{out(i%5, open)}, 1+i%8)...))
			joins(t, n, m)
			last = m.id
			for j := range 1 + i%8 {
				want = append(want, left(m.coin(0, j), out(i%5, open), i+1))
			}
		}
		has(t, n, want...)
	}
}

// TestAnswersAreNew: what a caller writes into an answer changes no other one.
func TestAnswersAreNew(t *testing.T) {
	n, two := rich(t)
	points := []api.Point{two.coin(1, 0), two.coin(1, 1), {}}
	room := append(slices.Clone(points), points...)[:3]
	firstLook, _ := n.Look(room)
	firstCoins := n.Coins()
	lookWas, coinsWas := slices.Clone(firstLook), slices.Clone(firstCoins)
	secondLook, _ := n.Look(room)
	secondCoins := n.Coins()
	scribble(secondLook)
	scribble(secondCoins)
	if !slices.Equal(firstLook, lookWas) || !slices.Equal(firstCoins, coinsWas) {
		t.Errorf("P2: an earlier answer changed to %+v, %+v", firstLook, firstCoins)
	}
	scribble(firstLook)
	scribble(firstCoins)
	thirdLook, _ := n.Look(points)
	if !slices.Equal(thirdLook, lookWas) || !slices.Equal(n.Coins(), coinsWas) {
		t.Errorf("P2: a later answer is %+v, %+v", thirdLook, n.Coins())
	}
	if !slices.Equal(room[:6], append(slices.Clone(points), points...)) {
		t.Errorf("P2: Look wrote into its list: %+v", room[:6])
	}
	clear(room[:6])
	if again, _ := n.Look(points); !slices.Equal(again, lookWas) {
		t.Errorf("P2: Look kept its list: %+v", again)
	}
}

// scribble writes over a list and its spare room.
func scribble(l []api.Coin) {
	l = l[:cap(l)]
	for i := range l {
		l[i] = api.Coin{Value: -1, Lock: "written over"}
	}
}
