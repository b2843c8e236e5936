package node

import "coinage/api"

// judge is what is known of a block while its transactions are gone through.
type judge struct {
	trail  *trail
	height int // of the block
	fees   int
	trials []trial
}

// join lets a block's transactions come about, with the coins of the chain that
// ends with its parent, and tells the first thing that makes it not good (P10).
// What came about till then is on the trail.
func (n *Node) join(b *block, t *trail) api.Errno {
	j := judge{trail: t, height: b.height}
	for _, x := range b.txs[1:] {
		if e := j.move(x); e != api.OK {
			return e
		}
	}
	// The first transaction comes last: it may take the fees, and nothing else
	// of the block may spend its coins.
	if e := j.mint(b.txs[0], n.config.Subsidy); e != api.OK {
		return e
	}
	if !n.allOpen(j.trials) {
		return api.ErrScript
	}
	return api.OK
}

func (j *judge) move(x tx) api.Errno {
	spent := 0
	for _, in := range x.ins {
		coin := j.trail.take(in.Coin)
		if !coin.There {
			return api.ErrInput
		}
		spent += coin.Value
		j.trials = append(j.trials, trial{key: in.Key, lock: coin.Lock, id: x.id, height: j.height})
	}
	made := total(x.outs)
	if made > spent {
		return api.ErrValue
	}
	j.fees += spent - made
	return j.create(x)
}

func (j *judge) mint(x tx, subsidy int) api.Errno {
	if total(x.outs) > subsidy+j.fees {
		return api.ErrValue
	}
	return j.create(x)
}

func (j *judge) create(x tx) api.Errno {
	if j.trail.coins.anyOf(x.id) {
		return api.ErrTwice
	}
	for i, out := range x.outs {
		j.trail.put(api.Coin{
			Point:  api.Point{Tx: x.id, Index: i},
			Value:  out.Value,
			Lock:   out.Lock,
			Height: j.height,
			There:  true,
		})
	}
	return api.OK
}

func total(outs []api.Out) int {
	sum := 0
	for _, out := range outs {
		sum += out.Value
	}
	return sum
}
