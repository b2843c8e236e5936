package code

import (
	"coinage/api"
	"coinage/digest"
)

// operate does an operation that has to do with the stack alone.
func (m *machine) operate(op byte) {
	switch op {
	case api.Dup:
		x := m.take()
		m.put(x)
		m.put(x)
	case api.Drop:
		m.take()
	case api.Swap:
		y, x := m.take(), m.take()
		m.put(y)
		m.put(x)
	case api.Add, api.Sub, api.Mul, api.Eq, api.Less, api.Sign:
		y, x := m.take(), m.take()
		m.put(m.combine(op, x, y))
	case api.Not:
		m.put(truth(m.take() == 0))
	case api.Hash:
		m.put(digest.H(digest.Bytes(m.take())))
	case api.Verify:
		if m.take() == 0 {
			panic(api.ErrVerify)
		}
	case api.Height:
		m.put(m.height)
	default:
		panic(api.ErrOp)
	}
}

// combine tells what an operation makes of the two uppermost numbers, of which
// y is the top.
func (m *machine) combine(op byte, x, y uint64) uint64 {
	switch op {
	case api.Add:
		return x + y
	case api.Sub:
		return x - y
	case api.Mul:
		return x * y
	case api.Eq:
		return truth(x == y)
	case api.Less:
		return truth(x < y)
	}
	return truth(x == digest.H(digest.Bytes(y)+m.id)) // Sign: y is k, x is s
}

func truth(is bool) uint64 {
	if is {
		return 1
	}
	return 0
}
