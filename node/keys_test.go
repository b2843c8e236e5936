package node_test

import (
	"runtime"
	"slices"
	"testing"
	"time"

	"coinage/api"
)

func TestScript(t *testing.T) {
	n, two := rich(t)
	a, b, c, d := two.coin(1, 0), two.coin(1, 1), two.coin(1, 2), two.coin(1, 3)
	for _, l := range [][]api.In{
		{in(a, "\x00\x4c")},
		{in(a, "\xff")},
		{in(c, "")},
		{in(c, "\x04")},
		{in(d, "\x01")},
		{in(a, ""), in(d, "")},
		{in(d, ""), in(a, "")},
		{in(a, ""), in(b, ""), in(c, "\x06")},
		{in(c, "\x06"), in(a, ""), in(b, "")},
		{in(a, "\x42"), in(b, "\x42")},
	} {
		isBad(t, n, block(t, two.id, base(3, out(0, "")), move(l, out(1, ""))), api.ErrScript)
		var apart []api.Tx
		for _, x := range l {
			apart = append(apart, move([]api.In{x}, out(1, "")))
		}
		isBad(t, n, block(t, two.id, append([]api.Tx{base(4, out(0, ""))}, apart...)...), api.ErrScript)
	}
	joins(t, n, block(t, two.id, base(3, out(0, "")), move([]api.In{in(c, "\x05"), in(a, "\x00"), in(b, "\x07\x08")}, out(1, ""))))
}

// TestScriptOwnID: a signature holds for its own transaction alone.
func TestScriptOwnID(t *testing.T) {
	n := started(t, usual())
	one := block(t, zero, base(1, out(20, signed), out(20, signed)))
	joins(t, n, one)
	a, b := one.coin(0, 0), one.coin(0, 1)
	x, y := pay(a, out(20, open)), pay(b, out(20, open))
	bare := block(t, one.id, base(2, out(0, "")), x, y)
	keyX, keyY := signature(7, bare.txs[1]), signature(7, bare.txs[2])
	for _, c := range []struct {
		x, y string
		e    api.Errno
	}{
		{keyX, keyX, api.ErrScript},
		{keyY, keyY, api.ErrScript},
		{keyY, keyX, api.ErrScript},
		{signature(8, bare.txs[1]), keyY, api.ErrScript},
		{signature(7, bare.id), keyY, api.ErrScript},
		{signature(7, bare.txs[0]), keyY, api.ErrScript},
		{keyX, keyY, api.OK},
	} {
		x.Ins[0].Key, y.Ins[0].Key = c.x, c.y
		m := block(t, one.id, base(2, out(0, "")), x, y)
		if !slices.Equal(m.txs, bare.txs) {
			t.Fatal("P5: the ids hang on the keys")
		}
		if c.e != api.OK {
			isBad(t, n, m, c.e)
			continue
		}
		joins(t, n, m)
	}
}

// TestScriptHeight: the height is that of the block that spends.
func TestScriptHeight(t *testing.T) {
	n := started(t, usual())
	one := block(t, zero, base(1, out(1, later), out(1, "\x4d\x04\x47")))
	joins(t, n, one)
	late, four := pay(one.coin(0, 0), out(1, "")), pay(one.coin(0, 1), out(1, ""))
	isBad(t, n, block(t, one.id, base(2, out(0, "")), late), api.ErrScript)
	two := block(t, one.id, base(2, out(0, "")))
	joins(t, n, two)
	isBad(t, n, block(t, two.id, base(3, out(0, "")), late, four), api.ErrScript)
	three := block(t, two.id, base(3, out(0, "")), late)
	joins(t, n, three)
	isBad(t, n, block(t, three.id, base(4, out(0, "")), late), api.ErrInput)
	joins(t, n, block(t, three.id, base(4, out(0, "")), four))
}

// TestRememberedHeight: the same key at the same lock for the same transaction,
// in a block of another height, is tried anew.
func TestRememberedHeight(t *testing.T) {
	for _, memory := range []int{0, 1, 64} {
		c := usual()
		c.Memory = memory
		n := started(t, c)
		one := block(t, zero, base(1, out(1, "\x4d\x02\x47"))) // at the height 2 alone
		joins(t, n, one)
		spend := pay(one.coin(0, 0), out(1, ""))
		two := block(t, one.id, base(2, out(0, "")), spend)
		joins(t, n, two)
		other := block(t, one.id, base(3, out(0, "")))
		answers(t, n, other, 0, 0, api.OK)
		isBad(t, n, block(t, other.id, base(4, out(0, "")), spend), api.ErrScript)
		answers(t, n, block(t, other.id, base(5, out(0, ""))), 1, 2, api.OK)
	}
}

// TestRememberedKey: of a key that opened, nothing follows for another key, nor
// for the same key at another lock or for another transaction.
func TestRememberedKey(t *testing.T) {
	c := usual()
	c.Memory = 64
	n := started(t, c)
	one := block(t, zero, base(1, out(1, five), out(1, five), out(1, "\x06\x47")))
	joins(t, n, one)
	spend := func(index int, key string) api.Tx {
		return move([]api.In{in(one.coin(0, index), key)}, out(1, ""))
	}
	isBad(t, n, block(t, one.id, base(2, out(0, "")), spend(0, "\x05"), spend(1, "\x04")), api.ErrScript)
	isBad(t, n, block(t, one.id, base(2, out(0, "")), spend(0, "\x04"), spend(1, "\x05")), api.ErrScript)
	isBad(t, n, block(t, one.id, base(2, out(0, "")), spend(0, "\x05"), spend(2, "\x05")), api.ErrScript)
	joins(t, n, block(t, one.id, base(2, out(0, "")), spend(0, "\x05"), spend(1, "\x05"), spend(2, "\x06")))
}

// TestManyKeys: as many keys as a block can have; each of them in turn is the
// only one that fails, however many workers there are.
func TestManyKeys(t *testing.T) {
	for workers := 1; workers <= 8; workers++ {
		c := usual()
		c.Workers, c.Memory = workers, 9*workers-8
		n := started(t, c)
		last, points := zero, []api.Point{}
		for i := range 7 {
			m := block(t, last, base(i, slices.Repeat([]api.Out{out(1, five)}, 8)...))
			joins(t, n, m)
			last = m.id
			for j := range 8 {
				points = append(points, m.coin(0, j))
			}
		}
		for wrong := workers - 1; wrong < 56; wrong += 9 {
			isBad(t, n, manyKeys(t, last, points, wrong), api.ErrScript)
		}
		joins(t, n, manyKeys(t, last, points, -1))
	}
}

func manyKeys(t *testing.T, parent string, points []api.Point, wrong int) made {
	t.Helper()
	txs := []api.Tx{base(100, out(0, ""))}
	for i := range 7 {
		x := api.Tx{Tag: 200 + i, Outs: []api.Out{out(8, "")}}
		for j := range 8 {
			key := "\x05"
			if 8*i+j == wrong {
				key = "\x06"
			}
			x.Ins = append(x.Ins, in(points[8*i+j], key))
		}
		txs = append(txs, x)
	}
	return block(t, parent, txs...)
}

// TestNoneGoesOn: no goroutine outlives the calls.
func TestNoneGoesOn(t *testing.T) {
	before := runtime.NumGoroutine()
	for workers := 1; workers <= 8; workers++ {
		c := usual()
		c.Workers = workers
		n := started(t, c)
		last := block(t, zero, base(0, slices.Repeat([]api.Out{out(1, open)}, 8)...))
		joins(t, n, last)
		for i := range 20 {
			var ins []api.In
			for j := range 8 {
				ins = append(ins, in(last.coin(min(i, 1), j), ""))
			}
			last = block(t, last.id, base(i+1, out(0, "")), move(ins, slices.Repeat([]api.Out{out(1, open)}, 8)...))
			joins(t, n, last)
		}
	}
	for range 100 {
		if runtime.NumGoroutine() <= before {
			return
		}
		time.Sleep(10 * time.Millisecond)
	}
	t.Errorf("goroutines: %d before, %d after", before, runtime.NumGoroutine())
}
