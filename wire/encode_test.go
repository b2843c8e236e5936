package wire_test

import (
	"fmt"
	"math"
	"strings"
	"testing"

	"coinage/api"
	"coinage/wire"
)

func TestEncodeBytes(t *testing.T) {
	for _, c := range []struct {
		b api.Block
		s string
	}{
		{example(), exampleBytes},
		{middle(), "6162636465666768 03 1234 03" +
			" 0102 00 02 01020304 02 0506 00000007 00" +
			" 0304 02 4142434445464748 09 03 6b6579 494a4b4c4d4e4f50 00 00 01 00000001 04 6c6f636b" +
			" 0506 01 5152535455565758 c8 01 00 03 00000000 01 ff 00000002 00 00000003 00"},
		{api.Block{Parent: "\xff\xff\xff\xff\xff\xff\xff\xff", Bits: 8, Nonce: 65535, Txs: []api.Tx{{Tag: 65535, Ins: []api.In{}, Outs: []api.Out{{Value: 4294967295, Lock: strings.Repeat("\xff", 32)}}}}},
			"ffffffffffffffff 08 ffff 01 ffff 00 01 ffffffff 20 " + strings.Repeat("ff", 32)},
	} {
		s, e := wire.Encode(c.b)
		if e != api.OK || s != raw(t, c.s) {
			t.Errorf("P3: Encode(%s) = %x, %d, want %s", brief(c.b), s, e, c.s)
		}
	}
}

func TestEncodeAndBack(t *testing.T) {
	for i, b := range some(300) {
		encodes(t, fmt.Sprint("block ", i), b)
	}
}

// field: a number or a text of a block, by its name.
type field[T any] struct {
	name string
	high int
	set  func(b *api.Block, v T)
}

// numbers: all numbers of the block full, with their upper bounds.
func numbers() []field[int] {
	l := []field[int]{
		{"Bits", 8, func(b *api.Block, v int) { b.Bits = v }},
		{"Nonce", 65535, func(b *api.Block, v int) { b.Nonce = v }},
	}
	for i, x := range full().Txs {
		l = append(l, field[int]{fmt.Sprintf("Txs[%d].Tag", i), 65535, func(b *api.Block, v int) { b.Txs[i].Tag = v }})
		for j := range x.Ins {
			l = append(l, field[int]{fmt.Sprintf("Txs[%d].Ins[%d].Index", i, j), 255, func(b *api.Block, v int) { b.Txs[i].Ins[j].Coin.Index = v }})
		}
		for j := range x.Outs {
			l = append(l, field[int]{fmt.Sprintf("Txs[%d].Outs[%d].Value", i, j), 4294967295, func(b *api.Block, v int) { b.Txs[i].Outs[j].Value = v }})
		}
	}
	return l
}

func TestEncodeNumbers(t *testing.T) {
	for _, f := range numbers() {
		for _, v := range []int{0, 1, f.high - 1, f.high, f.high + 1, f.high + 2, 2 * (f.high + 1), 256, 65536, 1 << 32, 1<<32 + 1, 1 << 40, 1 << 62, math.MaxInt, -1, -2, -255, -256, -65536, -1 << 32, math.MinInt, math.MinInt + 1} {
			b := full()
			f.set(&b, v)
			what := fmt.Sprintf("%s is %d", f.name, v)
			if v >= 0 && v <= f.high {
				encodes(t, what, b)
			} else {
				hasNone(t, what, b)
			}
		}
	}
}

// codes: all keys and locks of the block full.
func codes() []field[string] {
	var l []field[string]
	for i, x := range full().Txs {
		for j := range x.Ins {
			l = append(l, field[string]{fmt.Sprintf("Txs[%d].Ins[%d].Key", i, j), 32, func(b *api.Block, v string) { b.Txs[i].Ins[j].Key = v }})
		}
		for j := range x.Outs {
			l = append(l, field[string]{fmt.Sprintf("Txs[%d].Outs[%d].Lock", i, j), 32, func(b *api.Block, v string) { b.Txs[i].Outs[j].Lock = v }})
		}
	}
	return l
}

func TestEncodeCodes(t *testing.T) {
	for _, f := range codes() {
		for _, n := range []int{0, 1, 31, 32, 33, 64, 255, 256, 257, 288, 65536} {
			b := full()
			f.set(&b, strings.Repeat("\x80", n))
			what := fmt.Sprintf("%s has %d bytes", f.name, n)
			if n <= f.high {
				encodes(t, what, b)
			} else {
				hasNone(t, what, b)
			}
		}
		b := full()
		f.set(&b, strings.Repeat("é", 17))
		hasNone(t, f.name+" has 17 runes of two bytes", b)
	}
}

// ids: all ids of the block full.
func ids() []field[string] {
	l := []field[string]{{"Parent", 8, func(b *api.Block, v string) { b.Parent = v }}}
	for i, x := range full().Txs {
		for j := range x.Ins {
			l = append(l, field[string]{fmt.Sprintf("Txs[%d].Ins[%d].Tx", i, j), 8, func(b *api.Block, v string) { b.Txs[i].Ins[j].Coin.Tx = v }})
		}
	}
	return l
}

func TestEncodeIDs(t *testing.T) {
	for _, f := range ids() {
		for _, v := range []string{zeroID, "\xff\xff\xff\xff\xff\xff\xff\xff", "éééé"} {
			b := full()
			f.set(&b, v)
			encodes(t, fmt.Sprintf("%s is %x", f.name, v), b)
		}
		for _, n := range []int{0, 1, 7, 9, 16, 256, 264, 65544} {
			b := full()
			f.set(&b, strings.Repeat("a", n))
			hasNone(t, fmt.Sprintf("%s has %d bytes", f.name, n), b)
		}
		b := full()
		f.set(&b, "éééééééé")
		hasNone(t, f.name+" has 8 runes of two bytes", b)
	}
}

// repeated: a list of n elements, made of those of l again and again.
func repeated[T any](l []T, n int) []T {
	r := make([]T, 0, n)
	for i := range n {
		r = append(r, l[i%len(l)])
	}
	return r
}

func TestEncodeHowManyTxs(t *testing.T) {
	spends := full().Txs[1:]
	for _, n := range []int{1, 2, 7, 8, 9, 10, 16, 255, 256, 257, 264, 65537} {
		b := full()
		b.Txs = append(b.Txs[:1:1], repeated(spends, n-1)...)
		what := fmt.Sprintf("%d Txs", n)
		if n <= 8 {
			encodes(t, what, b)
		} else {
			hasNone(t, what, b)
		}
	}
	hasNone(t, "Txs nil", api.Block{Parent: zeroID})
	hasNone(t, "Txs empty", api.Block{Parent: zeroID, Txs: []api.Tx{}})
}

func TestEncodeHowManyIns(t *testing.T) {
	ins := full().Txs[1].Ins
	for i := range full().Txs {
		for _, n := range []int{0, 1, 2, 7, 8, 9, 16, 255, 256, 257, 264, 65537} {
			b := full()
			b.Txs[i].Ins = repeated(ins, n)
			what := fmt.Sprintf("%d Ins of Txs[%d]", n, i)
			if i == 0 && n == 0 || i > 0 && n >= 1 && n <= 8 {
				encodes(t, what, b)
			} else {
				hasNone(t, what, b)
			}
		}
	}
	b := full()
	b.Txs[0].Ins = nil
	encodes(t, "Ins nil of Txs[0]", b)
	b.Txs[1].Ins = nil
	hasNone(t, "Ins nil of Txs[1]", b)
}

func TestEncodeHowManyOuts(t *testing.T) {
	outs := full().Txs[0].Outs
	for i := range full().Txs {
		for _, n := range []int{0, 1, 2, 7, 8, 9, 16, 255, 256, 257, 264, 65537} {
			b := full()
			b.Txs[i].Outs = repeated(outs, n)
			what := fmt.Sprintf("%d Outs of Txs[%d]", n, i)
			if n >= 1 && n <= 8 {
				encodes(t, what, b)
			} else {
				hasNone(t, what, b)
			}
		}
		b := full()
		b.Txs[i].Outs = nil
		hasNone(t, fmt.Sprintf("Outs nil of Txs[%d]", i), b)
	}
}
