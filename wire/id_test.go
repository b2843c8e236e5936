package wire_test

import (
	"reflect"
	"strings"
	"testing"

	"coinage/api"
	"coinage/wire"
)

// blockID and txIDs: what the calls answer for b, which has bytes.
func blockID(t *testing.T, b api.Block) string {
	t.Helper()
	id, e := wire.BlockID(plain(b))
	if e != api.OK || len(id) != 8 {
		t.Errorf("P5: BlockID of %s: %x, %d", brief(b), id, e)
	}
	return id
}

func txIDs(t *testing.T, b api.Block) []string {
	t.Helper()
	l, e := wire.TxIDs(plain(b))
	if e != api.OK || len(l) != len(b.Txs) {
		t.Fatalf("P5: TxIDs of %s: %x, %d", brief(b), l, e)
	}
	return l
}

func TestIDsOfExample(t *testing.T) {
	if id := blockID(t, example()); id != raw(t, "7a1f3dafaaef183a") {
		t.Errorf("P5: the id of the example's block: %x", id)
	}
	if l := txIDs(t, example()); l[0] != raw(t, "0b616aaf69621f33") {
		t.Errorf("P5: the id of the example's transaction: %x", l[0])
	}
}

func TestIDs(t *testing.T) {
	for _, b := range some(200) {
		if id := blockID(t, b); id != sum("\x62"+plain(b)) {
			t.Errorf("P5: BlockID of %s: %x", brief(b), id)
		}
		var want []string
		for _, x := range b.Txs {
			want = append(want, sum("\x74"+plainTx(x, false)))
		}
		if l := txIDs(t, b); !reflect.DeepEqual(l, want) {
			t.Errorf("P5: TxIDs of %s: %x, want %x", brief(b), l, want)
		}
	}
}

func TestTxIDsWithoutKeys(t *testing.T) {
	for _, made := range []func() api.Block{middle, full} {
		want, block := txIDs(t, made()), blockID(t, made())
		for _, key := range []string{"", "\x00", "\x01", "other", strings.Repeat("\xff", 32)} {
			for i, x := range made().Txs {
				for j := range x.Ins {
					b := made()
					if b.Txs[i].Ins[j].Key == key {
						continue
					}
					b.Txs[i].Ins[j].Key = key
					if l := txIDs(t, b); !reflect.DeepEqual(l, want) {
						t.Errorf("P5: Txs[%d].Ins[%d] with the key %x: %x, want %x", i, j, key, l, want)
					}
					if blockID(t, b) == block {
						t.Errorf("P5: Txs[%d].Ins[%d] with the key %x: the block's id is the same", i, j, key)
					}
				}
			}
		}
	}
}

// TestTxIDsChange: all of a transaction but its keys is in its id, and nothing
// of the block around it.
func TestTxIDsChange(t *testing.T) {
	want := txIDs(t, middle())
	for name, change := range map[string]func(x *api.Tx){
		"Tag":     func(x *api.Tx) { x.Tag++ },
		"Tx":      func(x *api.Tx) { x.Ins[0].Coin.Tx = "ABCDEFGI" },
		"Index":   func(x *api.Tx) { x.Ins[0].Coin.Index++ },
		"one In":  func(x *api.Tx) { x.Ins = x.Ins[:1] },
		"Ins":     func(x *api.Tx) { x.Ins[0], x.Ins[1] = x.Ins[1], x.Ins[0] },
		"Value":   func(x *api.Tx) { x.Outs[0].Value++ },
		"Lock":    func(x *api.Tx) { x.Outs[0].Lock = "Lock" },
		"no Lock": func(x *api.Tx) { x.Outs[0].Lock = "" },
		"an Out":  func(x *api.Tx) { x.Outs = append(x.Outs, api.Out{}) },
	} {
		b := middle()
		change(&b.Txs[1])
		l := txIDs(t, b)
		if l[0] != want[0] || l[1] == want[1] || l[2] != want[2] {
			t.Errorf("P5: %s of Txs[1] changed: %x, before %x", name, l, want)
		}
	}
	b := middle()
	b.Parent, b.Bits, b.Nonce = zeroID, 0, 0
	b.Txs[1], b.Txs[2] = b.Txs[2], b.Txs[1]
	if l := txIDs(t, b); l[0] != want[0] || l[1] != want[2] || l[2] != want[1] {
		t.Errorf("P5: in another block, in another order: %x, before %x", l, want)
	}
}
