package node

import (
	"coinage/api"
	"coinage/wire"
)

const firstID = "\x00\x00\x00\x00\x00\x00\x00\x00"

// block is a block that is kept, or the first one, which has no parent.
type block struct {
	id     string
	parent *block
	height int
	work   int
	txs    []tx
	bad    bool
}

// tx is what a transaction does, under its id.
type tx struct {
	id   string
	ins  []api.In
	outs []api.Out
}

// handed is a block that was handed in, of which it is not known yet where it
// belongs.
type handed struct {
	id     string
	parent string
	bits   int
	txs    []tx
}

func read(s string) (handed, api.Errno) {
	b, e := wire.Decode(s)
	if e != api.OK {
		return handed{}, e
	}
	id, _ := wire.BlockID(s) // bytes that Decode reads have their ids
	ids, _ := wire.TxIDs(s)
	txs := make([]tx, len(b.Txs))
	for i, t := range b.Txs {
		txs[i] = tx{id: ids[i], ins: t.Ins, outs: t.Outs}
	}
	return handed{id: id, parent: b.Parent, bits: b.Bits, txs: txs}, api.OK
}

// refusal tells why a block is not kept, or OK (P8).
func (n *Node) refusal(h handed) api.Errno {
	parent := n.find(h.parent)
	switch {
	case n.find(h.id) != nil:
		return api.ErrKnown
	case h.bits < n.config.Bits || !shows(h.id, h.bits):
		return api.ErrWork
	case parent == nil:
		return api.ErrParent
	case parent.bad:
		return api.ErrBranch
	case len(n.blocks)-1 == api.MaxBlocks: // the first block is not counted
		return api.ErrFull
	}
	return api.OK
}

// find tells the block of an id, the first one too, or nil.
func (n *Node) find(id string) *block {
	for _, b := range n.blocks {
		if b.id == id {
			return b
		}
	}
	return nil
}

// shows tells whether the last bits of an id are all 0. They lie within its
// last byte: api.MaxBits is 8.
func shows(id string, bits int) bool {
	last := int(id[len(id)-1])
	return last&(1<<bits-1) == 0
}

// keep keeps a block that was not refused: its parent is known.
func (n *Node) keep(h handed) *block {
	parent := n.find(h.parent)
	b := &block{
		id:     h.id,
		parent: parent,
		height: parent.height + 1,
		work:   parent.work + 1<<h.bits,
		txs:    h.txs,
	}
	n.blocks = append(n.blocks, b)
	return b
}

// spoil makes a block bad, and all that are kept behind it. These came later
// than it did, each one behind its parent, so one pass finds them. No bad block
// joins a chain any more: what it would do is forgotten.
func (n *Node) spoil(b *block) {
	b.bad = true
	for _, x := range n.blocks {
		if x.parent != nil && x.parent.bad {
			x.bad = true
		}
		if x.bad {
			x.txs = nil
		}
	}
}
