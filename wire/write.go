package wire

import "coinage/api"

// appendNumber writes the last width bytes of n, the highest first.
func appendNumber(l []byte, n, width int) []byte {
	for i := width - 1; i >= 0; i-- {
		l = append(l, byte(n>>(8*i)))
	}
	return l
}

// appendBlock and the functions behind it count on a block that fits.
func appendBlock(l []byte, b api.Block) []byte {
	l = append(l, b.Parent...)
	l = appendNumber(l, b.Bits, 1)
	l = appendNumber(l, b.Nonce, 2)
	l = appendNumber(l, len(b.Txs), 1)
	for _, t := range b.Txs {
		l = appendTx(l, t)
	}
	return l
}

func appendTx(l []byte, t api.Tx) []byte {
	l = appendNumber(l, t.Tag, 2)
	l = appendNumber(l, len(t.Ins), 1)
	for _, in := range t.Ins {
		l = append(l, in.Coin.Tx...)
		l = appendNumber(l, in.Coin.Index, 1)
		l = appendCode(l, in.Key)
	}
	l = appendNumber(l, len(t.Outs), 1)
	for _, out := range t.Outs {
		l = appendNumber(l, out.Value, 4)
		l = appendCode(l, out.Lock)
	}
	return l
}

func appendCode(l []byte, s string) []byte {
	l = appendNumber(l, len(s), 1)
	return append(l, s...)
}
