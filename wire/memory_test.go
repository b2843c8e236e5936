package wire_test

import (
	"fmt"
	"math"
	"strings"
	"testing"

	"coinage/api"
	"coinage/wire"
)

// TestNoPanic: blocks whose every part is strange are refused, and no call
// gives up.
func TestNoPanic(t *testing.T) {
	numbers := []int{math.MinInt, -1 << 32, -1, 1 << 32, 1 << 33, math.MaxInt}
	texts := []string{"", "a", strings.Repeat("\xff", 33), strings.Repeat("\x00", 1<<20)}
	for _, n := range numbers {
		for _, s := range texts {
			in := api.In{Coin: api.Point{Tx: s, Index: n}, Key: s}
			out := api.Out{Value: n, Lock: s}
			for _, x := range []api.Tx{{}, {Tag: n}, {Ins: []api.In{in}}, {Outs: []api.Out{out}}, {Tag: n, Ins: []api.In{in}, Outs: []api.Out{out}}, {Ins: make([]api.In, 100000)}, {Outs: make([]api.Out, 100000)}} {
				for _, l := range [][]api.Tx{nil, {}, {x}, {x, x}, repeated([]api.Tx{x}, 300)} {
					hasNone(t, "all strange", api.Block{Parent: s, Bits: n, Nonce: n, Txs: l})
					hasNone(t, "all strange but the head", api.Block{Parent: zeroID, Txs: l})
				}
			}
		}
	}
	hasNone(t, "the zero block", api.Block{})
}

// roomy: b in lists with spare room, which is filled with marks.
func roomy(b api.Block) api.Block {
	b.Txs = spare(b.Txs, markedTx)
	for i := range b.Txs {
		b.Txs[i].Ins = spare(b.Txs[i].Ins, markedIn)
		b.Txs[i].Outs = spare(b.Txs[i].Outs, markedOut)
	}
	return b
}

func spare[T any](l []T, mark func(string) T) []T {
	r := make([]T, len(l)+5)
	for i := range r {
		r[i] = mark("spare room")
	}
	return r[:copy(r, l)]
}

func markedTx(s string) api.Tx {
	return api.Tx{Tag: -len(s), Outs: []api.Out{markedOut(s)}}
}

func markedIn(s string) api.In {
	return api.In{Coin: api.Point{Tx: s, Index: -1}, Key: s}
}

func markedOut(s string) api.Out {
	return api.Out{Value: -1, Lock: s}
}

// whole tells all of b's lists, their spare room too.
func whole(b api.Block) string {
	b.Txs = append([]api.Tx(nil), b.Txs[:cap(b.Txs)]...)
	for i := range b.Txs {
		b.Txs[i].Ins = b.Txs[i].Ins[:cap(b.Txs[i].Ins)]
		b.Txs[i].Outs = b.Txs[i].Outs[:cap(b.Txs[i].Outs)]
	}
	return fmt.Sprintf("%#v", b)
}

func TestHandedInStays(t *testing.T) {
	beyond := full()
	beyond.Txs[7].Outs[7].Value = -1
	for _, b := range append(some(50), beyond, api.Block{}, api.Block{Parent: zeroID, Txs: make([]api.Tx, 9)}) {
		b = roomy(b)
		was, lens := whole(b), fmt.Sprintf("%#v", b)
		s, e := wire.Encode(b)
		kept := strings.Clone(s)
		if whole(b) != was || fmt.Sprintf("%#v", b) != lens {
			t.Errorf("P2: Encode wrote into its block: %s", brief(b))
		}
		for i := range b.Txs {
			fill(b.Txs[i].Ins, markedIn("written"))
			fill(b.Txs[i].Outs, markedOut("written"))
		}
		fill(b.Txs, markedTx("written"))
		if s != kept {
			t.Errorf("P2: Encode's answer hangs on the list (%d): %.80x, before %.80x", e, s, kept)
		}
	}
}

// TestNothingIsKept: a list that was handed in, and changed since, counts as
// it is now.
func TestNothingIsKept(t *testing.T) {
	b := middle()
	encodes(t, "ahead of the change", b)
	b.Txs[1].Ins[0].Key, b.Txs[2].Outs[1].Value, b.Txs[0].Tag = "new key", 77, 0
	encodes(t, "behind the change", b)
	b.Txs[2].Outs[1].Value = -1
	hasNone(t, "behind a wrong change", b)
}

func fill[T any](l []T, v T) {
	l = l[:cap(l)]
	for i := range l {
		l[i] = v
	}
}

// holds tells whether all of l, its spare room too, is v.
func holds[T any](l []T, v T) bool {
	for _, x := range l[:cap(l)] {
		if fmt.Sprintf("%#v", x) != fmt.Sprintf("%#v", v) {
			return false
		}
	}
	return true
}

// TestAnswersOfDecode: every list of two answers is written full with a mark of
// its own; if two shared memory, one of them would lose its mark.
func TestAnswersOfDecode(t *testing.T) {
	for _, b := range append(some(30), full()) {
		s := plain(b)
		one, _ := wire.Decode(s)
		two, _ := wire.Decode(s)
		ids, _ := wire.TxIDs(s)
		lists := append(append([]api.Tx(nil), one.Txs...), two.Txs...)
		for i, x := range lists {
			fill(x.Ins, markedIn(fmt.Sprint("mark ", i)))
			fill(x.Outs, markedOut(fmt.Sprint("mark ", i)))
		}
		for i, x := range lists {
			if !holds(x.Ins, markedIn(fmt.Sprint("mark ", i))) || !holds(x.Outs, markedOut(fmt.Sprint("mark ", i))) {
				t.Errorf("P2: two lists of answers share memory: list %d", i)
			}
		}
		fill(one.Txs, markedTx("one"))
		fill(two.Txs, markedTx("three"))
		if !holds(one.Txs, markedTx("one")) || !holds(two.Txs, markedTx("three")) {
			t.Errorf("P2: the lists of transactions share memory")
		}
		encodes(t, "behind the writing", b)
		if again, _ := wire.TxIDs(s); fmt.Sprint(ids) != fmt.Sprint(again) {
			t.Errorf("P2: TxIDs = %x, before the writing %x", again, ids)
		}
	}
}

// TestAnswerStays: one list is written full, and all others of the answer are
// as they were.
func TestAnswerStays(t *testing.T) {
	for i := range full().Txs {
		one, _ := wire.Decode(plain(full()))
		want := copied(full())
		fill(one.Txs[i].Ins, markedIn("mark"))
		fill(want.Txs[i].Ins, markedIn("mark"))
		if !same(one, want) {
			t.Errorf("P2: writing into the Ins of Txs[%d]: %s", i, brief(one))
		}
		fill(one.Txs[i].Outs, markedOut("mark"))
		fill(want.Txs[i].Outs, markedOut("mark"))
		if !same(one, want) {
			t.Errorf("P2: writing into the Outs of Txs[%d]: %s", i, brief(one))
		}
	}
}

func TestAnswersOfTxIDs(t *testing.T) {
	for _, b := range some(30) {
		s := plain(b)
		one, _ := wire.TxIDs(s)
		two, _ := wire.TxIDs(s)
		want := fmt.Sprint(two)
		fill(one, "one")
		if fmt.Sprint(two) != want {
			t.Errorf("P2: two answers of TxIDs share memory: %q, before %q", two, want)
		}
		fill(two, "two")
		if !holds(one, "one") || !holds(two, "two") {
			t.Errorf("P2: two answers of TxIDs share memory: %q, %q", one, two)
		}
		if three, _ := wire.TxIDs(s); fmt.Sprint(three) != want {
			t.Errorf("P2: TxIDs = %q, before the writing %q", three, want)
		}
	}
}

// TestOrder: what a call answers does not hang on the calls ahead of it.
func TestOrder(t *testing.T) {
	good := plain(middle())
	for range 3 {
		encodes(t, "in any order", middle())
		isNone(t, "in any order", good[1:])
		hasNone(t, "in any order", api.Block{})
		if id := blockID(t, middle()); id != sum("b"+good) {
			t.Errorf("P5: BlockID(%x) = %x", good, id)
		}
	}
}
