package node

import (
	"slices"

	"coinage/api"
)

// step is a coin that came or went.
type step struct {
	coin api.Coin
	came bool
}

// trail changes the coins and notes each step, so that there is a way back.
type trail struct {
	coins coins
	steps []step
}

func (t *trail) put(coin api.Coin) {
	t.coins.put(coin)
	t.steps = append(t.steps, step{coin: coin, came: true})
}

// take tells the coin that it takes away, or a zero one.
func (t *trail) take(p api.Point) api.Coin {
	coin := t.coins.take(p)
	if coin.There {
		t.steps = append(t.steps, step{coin: coin})
	}
	return coin
}

// undo turns steps round, the last one first. That is noted too: it is as much
// a part of the way as what it turns round.
func (t *trail) undo(steps []step) {
	for _, s := range slices.Backward(steps) {
		if s.came {
			t.take(s.coin.Point)
		} else {
			t.put(s.coin)
		}
	}
}
