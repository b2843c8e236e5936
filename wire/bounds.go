package wire

import (
	"coinage/api"
	"coinage/digest"
)

// The bounds that package api does not name.
const (
	maxIndex = 255
	maxNonce = 65535
	maxTag   = 65535
)

// insBounds tells how few and how many Ins a transaction has: a block's first
// one makes its coins anew and spends none.
func insBounds(first bool) (low, high int) {
	if first {
		return 0, 0
	}
	return 1, api.MaxIns
}

func within(n, low, high int) bool {
	return low <= n && n <= high
}

// blockFits holds the lengths of lists against their bounds before it walks
// them, so that no long list is gone through.
func blockFits(b api.Block) bool {
	if len(b.Parent) != digest.Size || !within(b.Bits, 0, api.MaxBits) || !within(b.Nonce, 0, maxNonce) {
		return false
	}
	if !within(len(b.Txs), 1, api.MaxTxs) {
		return false
	}
	for i, t := range b.Txs {
		if !txFits(t, i == 0) {
			return false
		}
	}
	return true
}

func txFits(t api.Tx, first bool) bool {
	low, high := insBounds(first)
	if !within(t.Tag, 0, maxTag) || !within(len(t.Ins), low, high) || !within(len(t.Outs), 1, api.MaxOuts) {
		return false
	}
	for _, in := range t.Ins {
		if !inFits(in) {
			return false
		}
	}
	for _, out := range t.Outs {
		if !outFits(out) {
			return false
		}
	}
	return true
}

func inFits(in api.In) bool {
	return len(in.Coin.Tx) == digest.Size && within(in.Coin.Index, 0, maxIndex) && len(in.Key) <= api.MaxCode
}

func outFits(out api.Out) bool {
	return within(out.Value, 0, api.MaxValue) && len(out.Lock) <= api.MaxCode
}
