package wire

import (
	"strings"

	"coinage/api"
	"coinage/digest"
)

// reader takes a block off the front of its bytes. What is cut short or beyond
// a bound makes it bad for good; from then on it reads zeros, so that every
// loop over a count that it read still ends.
type reader struct {
	rest string
	bad  bool
}

func (r *reader) take(n int) string {
	if r.bad || len(r.rest) < n {
		r.bad = true
		return ""
	}
	s := r.rest[:n]
	r.rest = r.rest[n:]
	return s
}

// text copies what it takes: an answer shares no memory with what was handed in.
func (r *reader) text(n int) string {
	return strings.Clone(r.take(n))
}

func (r *reader) number(width, low, high int) int {
	n := 0
	for _, c := range []byte(r.take(width)) {
		n = n<<8 | int(c)
	}
	if !within(n, low, high) {
		r.bad = true
	}
	if r.bad {
		return 0
	}
	return n
}

func (r *reader) code() string {
	return r.text(r.number(1, 0, api.MaxCode))
}

func (r *reader) block() api.Block {
	var b api.Block
	b.Parent = r.text(digest.Size)
	b.Bits = r.number(1, 0, api.MaxBits)
	b.Nonce = r.number(2, 0, maxNonce)
	b.Txs = make([]api.Tx, r.number(1, 1, api.MaxTxs))
	for i := range b.Txs {
		b.Txs[i] = r.tx(i == 0)
	}
	return b
}

func (r *reader) tx(first bool) api.Tx {
	var t api.Tx
	low, high := insBounds(first)
	t.Tag = r.number(2, 0, maxTag)
	t.Ins = make([]api.In, r.number(1, low, high))
	for i := range t.Ins {
		t.Ins[i] = r.in()
	}
	t.Outs = make([]api.Out, r.number(1, 1, api.MaxOuts))
	for i := range t.Outs {
		t.Outs[i] = r.out()
	}
	return t
}

func (r *reader) in() api.In {
	var in api.In
	in.Coin.Tx = r.text(digest.Size)
	in.Coin.Index = r.number(1, 0, maxIndex)
	in.Key = r.code()
	return in
}

func (r *reader) out() api.Out {
	var out api.Out
	out.Value = r.number(4, 0, api.MaxValue)
	out.Lock = r.code()
	return out
}
