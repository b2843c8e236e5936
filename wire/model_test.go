package wire_test

import (
	"encoding/binary"
	"encoding/hex"
	"fmt"
	"hash/fnv"
	"math/rand"
	"reflect"
	"strings"
	"testing"

	"coinage/api"
	"coinage/wire"
)

const zeroID = "\x00\x00\x00\x00\x00\x00\x00\x00"

const exampleBytes = "0000000000000000 00 0000 01 0001 00 01 00000032 01 01"

func example() api.Block {
	return api.Block{Parent: zeroID, Txs: []api.Tx{{Tag: 1, Outs: []api.Out{{Value: 50, Lock: "\x01"}}}}}
}

// raw: bytes that are written in hexadecimal.
func raw(t *testing.T, s string) string {
	t.Helper()
	b, err := hex.DecodeString(strings.ReplaceAll(s, " ", ""))
	if err != nil {
		t.Fatal(err)
	}
	return string(b)
}

func sum(s string) string {
	h := fnv.New64a()
	h.Write([]byte(s))
	return string(h.Sum(nil))
}

// plain writes a block without asking for its bounds, so that a test can also
// make the bytes of what is no block.
func plain(b api.Block) string {
	l := []byte(b.Parent)
	l = append(l, byte(b.Bits))
	l = binary.BigEndian.AppendUint16(l, uint16(b.Nonce))
	l = append(l, byte(len(b.Txs)))
	for _, x := range b.Txs {
		l = append(l, plainTx(x, true)...)
	}
	return string(l)
}

func plainTx(x api.Tx, keys bool) string {
	l := binary.BigEndian.AppendUint16(nil, uint16(x.Tag))
	l = append(l, byte(len(x.Ins)))
	for _, in := range x.Ins {
		l = append(l, in.Coin.Tx...)
		l = append(l, byte(in.Coin.Index))
		if keys {
			l = append(l, byte(len(in.Key)))
			l = append(l, in.Key...)
		} else {
			l = append(l, 0)
		}
	}
	l = append(l, byte(len(x.Outs)))
	for _, out := range x.Outs {
		l = binary.BigEndian.AppendUint32(l, uint32(out.Value))
		l = append(l, byte(len(out.Lock)))
		l = append(l, out.Lock...)
	}
	return string(l)
}

// isBlock judges bytes by their lengths alone, to hold Decode against.
func isBlock(s string) bool {
	if len(s) < 12 || s[8] > 8 || s[11] < 1 || s[11] > 8 {
		return false
	}
	at := 12
	for i := range int(s[11]) {
		if at+3 > len(s) {
			return false
		}
		ins := int(s[at+2])
		if (i == 0) != (ins == 0) || ins > 8 {
			return false
		}
		at += 3
		for range ins {
			if at = behind(s, at, 9); at < 0 {
				return false
			}
		}
		if at >= len(s) || s[at] < 1 || s[at] > 8 {
			return false
		}
		outs := int(s[at])
		at++
		for range outs {
			if at = behind(s, at, 4); at < 0 {
				return false
			}
		}
	}
	return at == len(s)
}

// behind tells where an In or an Out ends whose code's length stands off bytes
// behind its beginning; -1, if it doesn't end within s.
func behind(s string, at, off int) int {
	if at+off >= len(s) || s[at+off] > 32 {
		return -1
	}
	end := at + off + 1 + int(s[at+off])
	if end > len(s) {
		return -1
	}
	return end
}

// full: a block that is at every upper bound, all its codes and ids unlike.
func full() api.Block {
	b := api.Block{Parent: "\xff\xfe\xfd\xfc\xfb\xfa\xf9\xf8", Bits: 8, Nonce: 65535}
	for i := range 8 {
		x := api.Tx{Tag: 65535 - i}
		for j := range 8 {
			if i > 0 {
				id := string([]byte{'i', byte(i), byte(j), 0, 1, 2, 3, 255})
				x.Ins = append(x.Ins, api.In{Coin: api.Point{Tx: id, Index: 255 - j}, Key: code32(i, j, 'k')})
			}
			x.Outs = append(x.Outs, api.Out{Value: 4294967295 - j, Lock: code32(i, j, 'l')})
		}
		b.Txs = append(b.Txs, x)
	}
	return b
}

func code32(i, j, kind int) string {
	return strings.Repeat(string([]byte{byte(i), byte(j), byte(kind), 255}), 8)
}

// middle: a block that is at no bound.
func middle() api.Block {
	return api.Block{Parent: "abcdefgh", Bits: 3, Nonce: 0x1234, Txs: []api.Tx{
		{Tag: 0x0102, Outs: []api.Out{{Value: 0x01020304, Lock: "\x05\x06"}, {Value: 7, Lock: ""}}},
		{Tag: 0x0304, Ins: []api.In{
			{Coin: api.Point{Tx: "ABCDEFGH", Index: 9}, Key: "key"},
			{Coin: api.Point{Tx: "IJKLMNOP", Index: 0}, Key: ""},
		}, Outs: []api.Out{{Value: 1, Lock: "lock"}}},
		{Tag: 0x0506, Ins: []api.In{{Coin: api.Point{Tx: "QRSTUVWX", Index: 200}, Key: "\x00"}}, Outs: []api.Out{{Value: 0, Lock: "\xff"}, {Value: 2}, {Value: 3}}},
	}}
}

// some: blocks within the bounds, the same ones in every run.
func some(n int) []api.Block {
	r := rand.New(rand.NewSource(1))
	l := []api.Block{example(), middle(), full()}
	for len(l) < n {
		b := api.Block{Parent: randomBytes(r, 8), Bits: r.Intn(9), Nonce: r.Intn(65536)}
		for i := range 1 + r.Intn(8) {
			x := api.Tx{Tag: r.Intn(65536)}
			for j := 0; i > 0 && j < 1+r.Intn(8); j++ {
				x.Ins = append(x.Ins, api.In{Coin: api.Point{Tx: randomBytes(r, 8), Index: r.Intn(256)}, Key: randomBytes(r, r.Intn(33))})
			}
			for range 1 + r.Intn(8) {
				x.Outs = append(x.Outs, api.Out{Value: int(r.Uint32()), Lock: randomBytes(r, r.Intn(33))})
			}
			b.Txs = append(b.Txs, x)
		}
		l = append(l, b)
	}
	return l
}

func randomBytes(r *rand.Rand, n int) string {
	b := make([]byte, n)
	r.Read(b)
	return string(b)
}

// copied: lists of length 0 become nil, so that two blocks may be compared.
func copied(b api.Block) api.Block {
	b.Txs = append([]api.Tx(nil), b.Txs...)
	for i := range b.Txs {
		b.Txs[i].Ins = append([]api.In(nil), b.Txs[i].Ins...)
		b.Txs[i].Outs = append([]api.Out(nil), b.Txs[i].Outs...)
	}
	return b
}

func same(a, b api.Block) bool {
	return reflect.DeepEqual(copied(a), copied(b))
}

// brief: the beginning of what is in b, for a message.
func brief(b api.Block) string {
	return fmt.Sprintf("%.200s", fmt.Sprintf("%+q", fmt.Sprintf("%+v", b)))
}

// encodes: b has bytes, and they are the right ones; they give b back.
func encodes(t *testing.T, what string, b api.Block) {
	t.Helper()
	want := plain(b)
	if s, e := wire.Encode(b); e != api.OK || s != want {
		t.Errorf("P3: %s: Encode = %.80x, %d, want %.80x", what, s, e, want)
	}
	if c, e := wire.Decode(want); e != api.OK || !same(b, c) {
		t.Errorf("P4: %s: Decode = %s, %d, want %s", what, brief(c), e, brief(b))
	}
}

// hasNone: b has no bytes.
func hasNone(t *testing.T, what string, b api.Block) {
	t.Helper()
	if s, e := wire.Encode(b); e != api.ErrForm || s != "" {
		t.Errorf("P3: %s: Encode = %.80x, %d, want ErrForm", what, s, e)
	}
}

// isNone: s is no block's bytes, for any of the calls, and all else is zero.
func isNone(t *testing.T, what string, s string) {
	t.Helper()
	if b, e := wire.Decode(s); e != api.ErrForm || !same(b, api.Block{}) {
		t.Errorf("P4: %s: Decode(%.80x) = %s, %d, want ErrForm", what, s, brief(b), e)
	}
	if id, e := wire.BlockID(s); e != api.ErrForm || id != "" {
		t.Errorf("P5: %s: BlockID(%.80x) = %x, %d, want ErrForm", what, s, id, e)
	}
	if ids, e := wire.TxIDs(s); e != api.ErrForm || len(ids) != 0 {
		t.Errorf("P5: %s: TxIDs(%.80x) = %x, %d, want ErrForm", what, s, ids, e)
	}
}
