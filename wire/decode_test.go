package wire_test

import (
	"fmt"
	"math/rand"
	"strings"
	"testing"

	"coinage/api"
	"coinage/wire"
)

func TestDecodeExample(t *testing.T) {
	b, e := wire.Decode(raw(t, exampleBytes))
	if e != api.OK || !same(b, example()) {
		t.Errorf("P4: Decode(%s) = %s, %d", exampleBytes, brief(b), e)
	}
}

func TestDecodeCutShort(t *testing.T) {
	for i, b := range some(20) {
		s := plain(b)
		for n := range s {
			isNone(t, fmt.Sprintf("block %d, its first %d bytes", i, n), s[:n])
			isNone(t, fmt.Sprintf("block %d without its first %d bytes", i, n+1), s[n+1:])
		}
	}
}

func TestDecodeTooLong(t *testing.T) {
	for i, b := range some(20) {
		s := plain(b)
		for _, more := range []string{"\x00", "\x01", "\xff", "\n", plainTx(middle().Txs[1], true), s, strings.Repeat("\x00", 100000)} {
			isNone(t, fmt.Sprintf("block %d and %d bytes more", i, len(more)), s+more)
		}
	}
}

// TestDecodeBeyondNumbers: only Bits can be beyond its bound within its bytes.
func TestDecodeBeyondNumbers(t *testing.T) {
	for bits := 9; bits < 256; bits++ {
		for _, b := range []api.Block{example(), full()} {
			b.Bits = bits
			isNone(t, fmt.Sprint("Bits ", bits), plain(b))
		}
	}
}

func TestDecodeBeyondCodes(t *testing.T) {
	for _, f := range codes() {
		for _, n := range []int{33, 34, 64, 127, 128, 255} {
			b := full()
			f.set(&b, strings.Repeat("\x01", n))
			isNone(t, fmt.Sprintf("%s has %d bytes", f.name, n), plain(b))
		}
	}
}

func TestDecodeBeyondTxs(t *testing.T) {
	for _, n := range []int{0, 9, 10, 128, 255} {
		b := full()
		b.Txs = append(b.Txs, repeated(b.Txs[1:], 250)...)[:n]
		isNone(t, fmt.Sprintf("%d Txs", n), plain(b))
	}
}

func TestDecodeBeyondIns(t *testing.T) {
	ins := full().Txs[1].Ins
	for i := range full().Txs {
		counts := []int{0, 9, 10, 128, 255}
		if i == 0 {
			counts = []int{1, 2, 8, 9, 255}
		}
		for _, n := range counts {
			b := full()
			b.Txs[i].Ins = repeated(ins, n)
			isNone(t, fmt.Sprintf("%d Ins of Txs[%d]", n, i), plain(b))
		}
	}
}

func TestDecodeBeyondOuts(t *testing.T) {
	outs := full().Txs[0].Outs
	for i := range full().Txs {
		for _, n := range []int{0, 9, 10, 128, 255} {
			b := full()
			b.Txs[i].Outs = repeated(outs, n)
			isNone(t, fmt.Sprintf("%d Outs of Txs[%d]", n, i), plain(b))
		}
	}
}

// judged: Decode holds s for a block's bytes just where isBlock does.
func judged(t *testing.T, s string) {
	t.Helper()
	if !isBlock(s) {
		isNone(t, "changed bytes", s)
		return
	}
	b, e := wire.Decode(s)
	if e != api.OK || plain(b) != s {
		t.Errorf("P4: Decode(%.80x) = %s, %d", s, brief(b), e)
	}
	if again, e := wire.Encode(b); e != api.OK || again != s {
		t.Errorf("P3: Encode(%s) = %.80x, %d, want %.80x", brief(b), again, e, s)
	}
}

func TestDecodeEveryByte(t *testing.T) {
	zeros := api.Block{Parent: zeroID, Txs: []api.Tx{
		{Outs: make([]api.Out, 8)},
		{Ins: []api.In{{Coin: api.Point{Tx: zeroID}}}, Outs: make([]api.Out, 1)},
	}}
	for _, b := range []api.Block{example(), middle(), zeros} {
		s := []byte(plain(b))
		for i, was := range s {
			for v := range 256 {
				s[i] = byte(v)
				judged(t, string(s))
			}
			s[i] = was
		}
	}
}

func TestDecodeChanged(t *testing.T) {
	r := rand.New(rand.NewSource(2))
	blocks := some(60)
	for range 30000 {
		s := plain(blocks[r.Intn(len(blocks))])
		for range 1 + r.Intn(3) {
			at, n := r.Intn(len(s)+1), r.Intn(5)
			end := min(len(s), at+r.Intn(5))
			s = s[:at] + randomBytes(r, n) + s[end:]
		}
		judged(t, s)
	}
}

func TestDecodeAnyString(t *testing.T) {
	r := rand.New(rand.NewSource(3))
	for range 30000 {
		b := make([]byte, r.Intn(80))
		for i := range b {
			b[i] = byte(r.Intn(4))
		}
		judged(t, string(b))
		judged(t, randomBytes(r, len(b)))
	}
	for v := range 256 {
		for _, n := range []int{0, 1, 11, 12, 13, 1000, 100000} {
			judged(t, strings.Repeat(string([]byte{byte(v)}), n))
		}
	}
}
