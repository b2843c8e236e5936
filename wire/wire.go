// Package wire: blocks as bytes: see DOC.md.
package wire

import (
	"coinage/api"
	"coinage/digest"
)

// Each kind of id begins with a byte of its own, so that no block and no
// transaction are hashed from the same bytes.
const (
	blockMark = "\x62"
	txMark    = "\x74"
)

// Encode writes a block (P3).
func Encode(b api.Block) (string, api.Errno) {
	if !blockFits(b) {
		return "", api.ErrForm
	}
	return string(appendBlock(nil, b)), api.OK
}

// Decode reads a block (P4).
func Decode(s string) (api.Block, api.Errno) {
	r := reader{rest: s}
	b := r.block()
	if r.bad || r.rest != "" {
		return api.Block{}, api.ErrForm
	}
	return b, api.OK
}

// BlockID tells the id of a block's bytes (P5).
func BlockID(s string) (string, api.Errno) {
	if _, e := Decode(s); e != api.OK {
		return "", e
	}
	return digest.ID(blockMark + s), api.OK
}

// TxIDs tells the ids of a block's transactions (P5).
func TxIDs(s string) ([]string, api.Errno) {
	b, e := Decode(s)
	if e != api.OK {
		return nil, e
	}
	ids := make([]string, len(b.Txs))
	for i, t := range b.Txs {
		ids[i] = txID(t)
	}
	return ids, api.OK
}

func txID(t api.Tx) string {
	return digest.ID(txMark + string(appendTx(nil, keyless(t))))
}

// keyless leaves the keys out, because a key may sign the id and so can't be
// part of it.
func keyless(t api.Tx) api.Tx {
	ins := make([]api.In, len(t.Ins))
	for i, in := range t.Ins {
		ins[i] = api.In{Coin: in.Coin}
	}
	return api.Tx{Tag: t.Tag, Ins: ins, Outs: t.Outs}
}
