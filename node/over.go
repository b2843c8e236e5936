package node

import (
	"slices"

	"coinage/api"
)

// link is a block of the chain, with the steps by which it joined, so that it
// can leave.
type link struct {
	block *block
	steps []step
}

// goOver makes a kept block the chain's last one (P9). The coins change under
// way; unless it arrives, whatever stops it, they are led back. The chain
// itself is changed at the end alone.
func (n *Node) goOver(to *block) (api.Report, api.Errno) {
	t := &trail{coins: n.coins}
	arrived := false
	defer func() {
		if !arrived {
			t.undo(t.steps)
		}
	}()
	way := n.wayTo(to)
	fork := way[0].height
	stay, leave := n.chain[:fork], n.chain[fork:]
	for _, l := range slices.Backward(leave) {
		t.undo(l.steps)
	}
	joined, e := n.joinAll(way, t)
	if e != api.OK {
		return api.Report{}, e
	}
	n.chain = slices.Concat(stay, joined)
	arrived = true
	return api.Report{Left: len(leave), Joined: len(joined)}, api.OK
}

// wayTo tells the blocks that join the chain on the way to one, that one last.
func (n *Node) wayTo(to *block) []*block {
	var way []*block
	for b := to; !n.inChain(b); b = b.parent {
		way = append(way, b)
	}
	slices.Reverse(way)
	return way
}

func (n *Node) inChain(b *block) bool {
	return b.height < len(n.chain) && n.chain[b.height].block == b
}

// joinAll lets blocks join, the earliest one first. The first that is not good
// is bad from now on; its error is told only if it is the last one, which is
// the one that was handed in.
func (n *Node) joinAll(way []*block, t *trail) ([]link, api.Errno) {
	var joined []link
	for i, b := range way {
		from := len(t.steps)
		if e := n.join(b, t); e != api.OK {
			n.spoil(b)
			if i < len(way)-1 {
				e = api.ErrBranch
			}
			return nil, e
		}
		joined = append(joined, link{block: b, steps: slices.Clone(t.steps[from:])})
	}
	return joined, api.OK
}
