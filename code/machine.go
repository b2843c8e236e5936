package code

import (
	"coinage/api"
	"coinage/digest"
)

// machine is what one Run works with. Whatever goes wrong in it is raised as a
// panic with an api.Errno: a machine that gave up is not used again, so a step
// may be left half done.
type machine struct {
	id     string
	height uint64
	steps  int
	stack  [api.MaxStack]uint64
	size   int // how many numbers are on the stack
}

func (m *machine) run(piece string) {
	m.runPart(piece, 0, len(piece))
}

// runPart runs the bytes of a piece from one place to ahead of another one.
func (m *machine) runPart(piece string, from, to int) {
	for at := from; at < to; {
		at = m.do(piece, at)
	}
}

// do does the step at a place, with all that stands within it if it is an If,
// and tells where it goes on.
func (m *machine) do(piece string, at int) int {
	m.step()
	switch op := piece[at]; {
	case op < api.Push:
		m.put(uint64(op))
	case op == api.Push:
		m.put(pushed(piece, at))
	case op == api.If:
		return m.choose(piece, at)
	case op == api.Else || op == api.End:
		// It is that of no If: choose stops ahead of those that are.
		panic(api.ErrNest)
	default:
		m.operate(op)
	}
	return behind(piece, at)
}

// choose runs the part of an If that is asked for, and tells where it goes on
// behind the If. The Else or End at which a part ends is come to: it is a step
// too. Without a part to run it is passed over.
func (m *machine) choose(piece string, at int) int {
	middle, end := ends(piece, at)
	if m.take() != 0 {
		m.runPart(piece, at+1, middle)
		m.step()
	} else if middle < end {
		m.runPart(piece, middle+1, end)
		m.step()
	}
	return end + 1
}

func (m *machine) step() {
	if m.steps == api.MaxSteps {
		panic(api.ErrSteps)
	}
	m.steps++
}

func (m *machine) put(x uint64) {
	if m.size == api.MaxStack {
		panic(api.ErrStack)
	}
	m.stack[m.size] = x
	m.size++
}

func (m *machine) take() uint64 {
	if m.size == 0 {
		panic(api.ErrStack)
	}
	m.size--
	return m.stack[m.size]
}

func (m *machine) checkTop() {
	if m.size == 0 || m.stack[m.size-1] == 0 {
		panic(api.ErrFalse)
	}
}

// pushed tells the number behind a Push.
func pushed(piece string, at int) uint64 {
	if behind(piece, at) > len(piece) {
		panic(api.ErrOp)
	}
	var n uint64
	for i := range digest.Size {
		n = n<<8 | uint64(piece[at+1+i])
	}
	return n
}
