package node

import (
	"slices"
	"sync"

	"coinage/api"
	"coinage/code"
)

// trial is a key that is tried at a lock, and all else that the answer hangs on.
type trial struct {
	key    string
	lock   string
	id     string
	height int
}

// allOpen tells whether all keys open their locks. Those that are remembered
// are not tried again.
func (n *Node) allOpen(trials []trial) bool {
	fresh := n.memory.without(trials)
	answers := runAll(fresh, n.config.Workers)
	open := true
	for i, e := range answers {
		if e == api.OK {
			n.memory.note(fresh[i])
		} else {
			open = false
		}
	}
	return open
}

// runAll tries keys by some workers at once, and tells the answers in the order of
// the trials, whichever worker was done first: each has elements of its own.
func runAll(trials []trial, workers int) []api.Errno {
	answers := make([]api.Errno, len(trials))
	var all sync.WaitGroup
	for w := range min(workers, len(trials)) {
		all.Add(1)
		go func() {
			defer all.Done()
			for i := w; i < len(trials); i += workers {
				t := trials[i]
				answers[i], _ = code.Run(t.key, t.lock, t.id, t.height)
			}
		}()
	}
	all.Wait()
	return answers
}

// memory is the latest keys that opened a lock: a block that comes back to the
// chain, or another one with the same transactions, need not try them again.
type memory struct {
	most   int
	opened []trial
}

func (m *memory) has(t trial) bool {
	return slices.Contains(m.opened, t)
}

func (m *memory) without(trials []trial) []trial {
	var fresh []trial
	for _, t := range trials {
		if !m.has(t) {
			fresh = append(fresh, t)
		}
	}
	return fresh
}

// note forgets the earliest one, if there is no room for one more.
func (m *memory) note(t trial) {
	if m.has(t) {
		return // two Ins of a transaction may have the same key and lock
	}
	m.opened = append(m.opened, t)
	if len(m.opened) > m.most {
		m.opened = slices.Delete(m.opened, 0, 1)
	}
}
